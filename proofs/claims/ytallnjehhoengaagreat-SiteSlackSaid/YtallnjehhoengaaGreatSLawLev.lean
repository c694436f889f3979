/- SiteLevels: the statement returns true for every table and minute. -/
import Derived.Test.YtallnjehhoengaaGreatSRefL
import Derived.Test.YtallnjehhoengaaGreatSPer
import Derived.Test.YtallnjehhoengaaGreatSAwk2
import Derived.Outline
namespace Go.Proofs.YtallnjehhoengaaGreat
open Go.ChangeShapes Go.WideShapes Go.ChangeAt Go.RowKit
set_option linter.unusedVariables false
set_option linter.unusedSimpArgs false
attribute [local go_sem ↓] Go.wp_at_zero Go.wp_at_succ
def sumH (L : List Wv) : Int := (L.map fun w => w.h).sum
theorem sumH_snoc (L : List Wv) (w : Wv) : sumH (L ++ [w]) = sumH L + w.h := by simp [sumH]
theorem hmulc {h c : Int} (h0 : 0 ≤ h) (c0 : -100000000 ≤ c) (c1 : c ≤ 100000000) : -(100000000 * h) ≤ h * c ∧ h * c ≤ 100000000 * h := by
  have a1 := Int.mul_le_mul_of_nonneg_left c0 h0
  have a2 := Int.mul_le_mul_of_nonneg_left c1 h0
  omega
theorem sumH_bd {L : List Wv} (hL : ∀ w ∈ L, WvOk w) (t : Int) : -(100000000 * sumH L) ≤ sumLo L t ∧ sumLo L t ≤ sumHi L t ∧ sumHi L t ≤ 100000000 * sumH L ∧ 0 ≤ sumH L ∧ sumH L ≤ 100000 * (L.length : Int) := by
  induction L with
  | nil => simp [sumLo, sumHi, sumH]
  | cons w r ih =>
    obtain ⟨i1, i2, i3, i4, i5⟩ := ih fun x hx => hL x (.tail _ hx)
    have hw := hL w (.head _)
    obtain ⟨c1, c2, c3⟩ := cosW_bd w t
    have b1 := hmulc hw.h0 c1 (by omega)
    have b2 := hmulc hw.h0 (by omega : -100000000 ≤ (cosW w t).2) c3
    have b3 : w.h * (cosW w t).1 ≤ w.h * (cosW w t).2 := Int.mul_le_mul_of_nonneg_left c2 hw.h0
    have b4 := hw.h0
    have b5 := hw.h1
    have e1 : sumLo (w :: r) t = w.h * (cosW w t).1 + sumLo r t := by simp [sumLo]
    have e2 : sumHi (w :: r) t = w.h * (cosW w t).2 + sumHi r t := by simp [sumHi]
    have e3 : sumH (w :: r) = w.h + sumH r := by simp [sumH]
    rw [e1, e2, e3]
    simp only [List.length_cons]
    omega
theorem lev_in (m : Int) {L : List Wv} (hL : ∀ w ∈ L, WvOk w) (t : Int) : m - sumH L ≤ levLo m L t ∧ levLo m L t ≤ levHi m L t ∧ levHi m L t ≤ m + sumH L := by
  obtain ⟨h1, h2, h3, _, _⟩ := sumH_bd hL t
  unfold levLo levHi dnO upO
  omega
theorem refLevel_is (m : Int) (L : List Wv) (A : Option Addr) (cap n : Nat) (t x y : Int) (w : World) (hn : Hid (n = L.length)) (hl : n ≤ 10) (hL : Hid (∀ x ∈ L, WvOk x)) (m0 : -100000 ≤ m) (m1 : m ≤ 100000) (t0 : 0 ≤ t) (t1 : t ≤ 2000000) (HL : Hid (SlRows wvV 3 w A L)) (hx : Hid (levLo m L t = x)) (hy : Hid (levHi m L t = y)) :
    Calls Tryz.prog 29 #[.agg #[.int .i64 m, .slice A n cap], .int .i64 t] w fun e w' => e = .returned (.agg #[.int .i64 x, .int .i64 y]) ∧ Below w.heap.size w w' := by
  have := refLevel_any m L A cap n t w hn hl hL.out m0 m1 t0 t1 HL
  rw [hx.out, hy.out] at this; exact this
set_option maxRecDepth 100000 in
set_option maxHeartbeats 1000000 in
theorem siteLev_few (m t : Int) (A : Option Addr) (n cap : Nat) (w : World) (hl : n ≤ 9223372036854775807) (hF : Hid (fewB n = false)) :
    Calls Tryz.prog 5 #[.agg #[.int .i64 m, .slice A n cap], .int .i64 t] w fun e w' => e = .returned (.bool true) ∧ Below w.heap.size w w' := by
  go_enter Tryz.func5, Tryz.ntmps5
  go_wp2_with fail
  refine (awake_any _).mono ?_
  rintro e xw1 ⟨rfl, hbx1⟩
  have zx1 := hbx1.size
  try simp at zx1
  obtain ⟨x1_0_0, x1_0_1⟩ : xw1.cell? ⟨w.heap.size, 0, none⟩ = some (.int .i64 m) ∧ xw1.cell? ⟨w.heap.size, 1, none⟩ = some (.slice A n cap) := by refine ⟨?_, ?_⟩ <;> (rw [(bcell hbx1).1 _ _ (by first | (simp; done) | (simp; omega) | omega)]; simp [go_sem, World.cell?_alloc_past, *])
  obtain ⟨x1o0, x1n0, x1m0, x1t0_0⟩ : w.heap.size < xw1.heap.size ∧ xw1.heap.size ≠ w.heap.size ∧ w.heap.size ≠ xw1.heap.size ∧ w.heap.size < xw1.heap.size + 1 := by refine ⟨?_, ?_, ?_, ?_⟩ <;> omega
  have hBx1 : Below w.heap.size w xw1 := (by (repeat (first | (with_reducible refine Below.drew ?_) | (with_reducible refine below_drewN ?_ _) | (with_reducible refine Below.alloc ?_ (by first | omega | (simp; done) | (simp; omega) | (simp at *; omega)) _) | (with_reducible refine Below.setCell ?_ (by first | omega | (simp; done) | (simp; omega) | (simp at *; omega)) _) | (with_reducible exact Below.refl _ _) | (with_reducible assumption) | (with_reducible refine Below.trans ?_ (Below.mono (by assumption) (by first | omega | (simp; done) | (simp; omega) | (simp at *; omega)))))))
  clear hbx1 
  go_wp2_with fail
  refine (few_is m A n cap false _ hl hF).mono ?_
  rintro e xw2 ⟨rfl, hbx2⟩
  have zx2 := hbx2.size
  try simp at zx2
  obtain ⟨x2_0_0, x2_0_1⟩ : xw2.cell? ⟨w.heap.size, 0, none⟩ = some (.int .i64 m) ∧ xw2.cell? ⟨w.heap.size, 1, none⟩ = some (.slice A n cap) := by refine ⟨?_, ?_⟩ <;> (rw [(bcell hbx2).1 _ _ (by first | (simp; done) | (simp; omega) | omega)]; simp [go_sem, World.cell?_alloc_past, *])
  obtain ⟨x2o0, x2n0, x2m0, x2t0_0⟩ : w.heap.size < xw2.heap.size ∧ xw2.heap.size ≠ w.heap.size ∧ w.heap.size ≠ xw2.heap.size ∧ w.heap.size < xw2.heap.size + 1 := by refine ⟨?_, ?_, ?_, ?_⟩ <;> omega
  have hBx2 : Below w.heap.size w xw2 := (by (repeat (first | (with_reducible refine Below.drew ?_) | (with_reducible refine below_drewN ?_ _) | (with_reducible refine Below.alloc ?_ (by first | omega | (simp; done) | (simp; omega) | (simp at *; omega)) _) | (with_reducible refine Below.setCell ?_ (by first | omega | (simp; done) | (simp; omega) | (simp at *; omega)) _) | (with_reducible exact Below.refl _ _) | (with_reducible assumption) | (with_reducible refine Below.trans ?_ (Below.mono (by assumption) (by first | omega | (simp; done) | (simp; omega) | (simp at *; omega)))))))
  clear hbx2 x1_0_0 x1_0_1 x1o0 x1n0 x1m0 x1t0_0 hBx1
  go_wp2
  go_ret
  exact ⟨rfl, hBx2⟩
set_option maxRecDepth 100000 in
set_option maxHeartbeats 2000000 in
theorem siteLev_t (m t F : Int) (L : List Wv) (A : Option Addr) (n cap : Nat) (w : World) (hn : Hid (n = L.length)) (hl : n ≤ 12) (hF : Hid (fewB n = true)) (HR : Hid (∀ w' : World, Below w.heap.size w w' → SlRows wvV 3 w' A L)) (CA : Hid (A = none → n = 0 ∧ cap = 0)) (hE : Hid (tidE m L = F)) (hz : (F != 0) = true) (hlv : Hid (lvlE m L t = F)) :
    Calls Tryz.prog 5 #[.agg #[.int .i64 m, .slice A n cap], .int .i64 t] w fun e w' => e = .returned (.bool true) ∧ Below w.heap.size w w' := by
  have hM : Hid (inB t 0 1000000 = inB t 0 1000000) := Lib.hid rfl
  have hz2 : (F == 0) = false := by simpa [bne] using hz
  go_enter Tryz.func5, Tryz.ntmps5
  go_wp2_with fail
  refine (awake_any _).mono ?_
  rintro e xw1 ⟨rfl, hbx1⟩
  have zx1 := hbx1.size
  try simp at zx1
  obtain ⟨x1_0_0, x1_0_1⟩ : xw1.cell? ⟨w.heap.size, 0, none⟩ = some (.int .i64 m) ∧ xw1.cell? ⟨w.heap.size, 1, none⟩ = some (.slice A n cap) := by refine ⟨?_, ?_⟩ <;> (rw [(bcell hbx1).1 _ _ (by first | (simp; done) | (simp; omega) | omega)]; simp [go_sem, World.cell?_alloc_past, *])
  obtain ⟨x1o0, x1n0, x1m0, x1t0_0⟩ : w.heap.size < xw1.heap.size ∧ xw1.heap.size ≠ w.heap.size ∧ w.heap.size ≠ xw1.heap.size ∧ w.heap.size < xw1.heap.size + 1 := by refine ⟨?_, ?_, ?_, ?_⟩ <;> omega
  have hBx1 : Below w.heap.size w xw1 := (by (repeat (first | (with_reducible refine Below.drew ?_) | (with_reducible refine below_drewN ?_ _) | (with_reducible refine Below.alloc ?_ (by first | omega | (simp; done) | (simp; omega) | (simp at *; omega)) _) | (with_reducible refine Below.setCell ?_ (by first | omega | (simp; done) | (simp; omega) | (simp at *; omega)) _) | (with_reducible exact Below.refl _ _) | (with_reducible assumption) | (with_reducible refine Below.trans ?_ (Below.mono (by assumption) (by first | omega | (simp; done) | (simp; omega) | (simp at *; omega)))))))
  clear hbx1 
  go_wp2_with fail
  refine (few_is m A n cap true _ (by omega) hF).mono ?_
  rintro e xw2 ⟨rfl, hbx2⟩
  have zx2 := hbx2.size
  try simp at zx2
  obtain ⟨x2_0_0, x2_0_1⟩ : xw2.cell? ⟨w.heap.size, 0, none⟩ = some (.int .i64 m) ∧ xw2.cell? ⟨w.heap.size, 1, none⟩ = some (.slice A n cap) := by refine ⟨?_, ?_⟩ <;> (rw [(bcell hbx2).1 _ _ (by first | (simp; done) | (simp; omega) | omega)]; simp [go_sem, World.cell?_alloc_past, *])
  obtain ⟨x2o0, x2n0, x2m0, x2t0_0⟩ : w.heap.size < xw2.heap.size ∧ xw2.heap.size ≠ w.heap.size ∧ w.heap.size ≠ xw2.heap.size ∧ w.heap.size < xw2.heap.size + 1 := by refine ⟨?_, ?_, ?_, ?_⟩ <;> omega
  have hBx2 : Below w.heap.size w xw2 := (by (repeat (first | (with_reducible refine Below.drew ?_) | (with_reducible refine below_drewN ?_ _) | (with_reducible refine Below.alloc ?_ (by first | omega | (simp; done) | (simp; omega) | (simp at *; omega)) _) | (with_reducible refine Below.setCell ?_ (by first | omega | (simp; done) | (simp; omega) | (simp at *; omega)) _) | (with_reducible exact Below.refl _ _) | (with_reducible assumption) | (with_reducible refine Below.trans ?_ (Below.mono (by assumption) (by first | omega | (simp; done) | (simp; omega) | (simp at *; omega)))))))
  clear hbx2 x1_0_0 x1_0_1 x1o0 x1n0 x1m0 x1t0_0 hBx1
  go_wp2_with fail
  refine (own_is m L A n cap _ hn (by omega) (Lib.hid (HR.out _ hBx2)) CA).mono ?_
  rintro e xw3 ⟨G, cg, rfl, hG, hbx3⟩
  have zx3 := hbx3.size
  try simp at zx3
  obtain ⟨x3_0_0, x3_0_1⟩ : xw3.cell? ⟨w.heap.size, 0, none⟩ = some (.int .i64 m) ∧ xw3.cell? ⟨w.heap.size, 1, none⟩ = some (.slice A n cap) := by refine ⟨?_, ?_⟩ <;> (rw [(bcell hbx3).1 _ _ (by first | (simp; done) | (simp; omega) | omega)]; simp [go_sem, World.cell?_alloc_past, *])
  obtain ⟨x3o0, x3n0, x3m0, x3t0_0⟩ : w.heap.size < xw3.heap.size ∧ xw3.heap.size ≠ w.heap.size ∧ w.heap.size ≠ xw3.heap.size ∧ w.heap.size < xw3.heap.size + 1 := by refine ⟨?_, ?_, ?_, ?_⟩ <;> omega
  have hBx3 : Below w.heap.size w xw3 := (by (repeat (first | (with_reducible refine Below.drew ?_) | (with_reducible refine below_drewN ?_ _) | (with_reducible refine Below.alloc ?_ (by first | omega | (simp; done) | (simp; omega) | (simp at *; omega)) _) | (with_reducible refine Below.setCell ?_ (by first | omega | (simp; done) | (simp; omega) | (simp at *; omega)) _) | (with_reducible exact Below.refl _ _) | (with_reducible assumption) | (with_reducible refine Below.trans ?_ (Below.mono (by assumption) (by first | omega | (simp; done) | (simp; omega) | (simp at *; omega)))))))
  clear hbx3 x2_0_0 x2_0_1 x2o0 x2n0 x2m0 x2t0_0 hBx2
  have HG := Lib.hid hG
  clear hG
  go_wp2_with fail
  refine (LevelAt_bad m L G cg n t F _ hn (by omega) HG hlv hz).mono ?_
  rintro e xw4 ⟨rfl, hbx4⟩
  have zx4 := hbx4.size
  try simp at zx4
  obtain ⟨x4_0_0, x4_0_1⟩ : xw4.cell? ⟨w.heap.size, 0, none⟩ = some (.int .i64 m) ∧ xw4.cell? ⟨w.heap.size, 1, none⟩ = some (.slice A n cap) := by refine ⟨?_, ?_⟩ <;> (rw [(bcell hbx4).1 _ _ (by first | (simp; done) | (simp; omega) | omega)]; simp [go_sem, World.cell?_alloc_past, *])
  obtain ⟨x4o0, x4n0, x4m0, x4t0_0⟩ : w.heap.size < xw4.heap.size ∧ xw4.heap.size ≠ w.heap.size ∧ w.heap.size ≠ xw4.heap.size ∧ w.heap.size < xw4.heap.size + 1 := by refine ⟨?_, ?_, ?_, ?_⟩ <;> omega
  have hBx4 : Below w.heap.size w xw4 := (by (repeat (first | (with_reducible refine Below.drew ?_) | (with_reducible refine below_drewN ?_ _) | (with_reducible refine Below.alloc ?_ (by first | omega | (simp; done) | (simp; omega) | (simp at *; omega)) _) | (with_reducible refine Below.setCell ?_ (by first | omega | (simp; done) | (simp; omega) | (simp at *; omega)) _) | (with_reducible exact Below.refl _ _) | (with_reducible assumption) | (with_reducible refine Below.trans ?_ (Below.mono (by assumption) (by first | omega | (simp; done) | (simp; omega) | (simp at *; omega)))))))
  clear hbx4 x3_0_0 x3_0_1 x3o0 x3n0 x3m0 x3t0_0 hBx3
  go_wp2_with fail
  refine (refTide_is m L A cap n F _ hn (by omega) (Lib.hid (HR.out _ (by (repeat (first | (with_reducible refine Below.drew ?_) | (with_reducible refine below_drewN ?_ _) | (with_reducible refine Below.alloc ?_ (by first | omega | (simp; done) | (simp; omega) | (simp at *; omega)) _) | (with_reducible refine Below.setCell ?_ (by first | omega | (simp; done) | (simp; omega) | (simp at *; omega)) _) | (with_reducible exact Below.refl _ _) | (with_reducible assumption) | (with_reducible refine Below.trans ?_ (Below.mono (by assumption) (by first | omega | (simp; done) | (simp; omega) | (simp at *; omega))))))))) hE).mono ?_
  rintro e xw5 ⟨rfl, hbx5⟩
  have zx5 := hbx5.size
  try simp at zx5
  obtain ⟨x5_0_0, x5_0_1, x5_1_0, x5_1_1⟩ : xw5.cell? ⟨w.heap.size, 0, none⟩ = some (.int .i64 m) ∧ xw5.cell? ⟨w.heap.size, 1, none⟩ = some (.slice A n cap) ∧ xw5.cell? ⟨xw4.heap.size, 0, none⟩ = some (.int .i64 0) ∧ xw5.cell? ⟨xw4.heap.size, 1, none⟩ = some (.int .i64 0) := by refine ⟨?_, ?_, ?_, ?_⟩ <;> (rw [(bcell hbx5).1 _ _ (by first | (simp; done) | (simp; omega) | omega)]; simp [go_sem, World.cell?_alloc_past, *])
  obtain ⟨x5o0, x5n0, x5m0, x5t0_0, x5o1, x5n1, x5m1, x5t1_0⟩ : w.heap.size < xw5.heap.size ∧ xw5.heap.size ≠ w.heap.size ∧ w.heap.size ≠ xw5.heap.size ∧ w.heap.size < xw5.heap.size + 1 ∧ xw4.heap.size < xw5.heap.size ∧ xw5.heap.size ≠ xw4.heap.size ∧ xw4.heap.size ≠ xw5.heap.size ∧ xw4.heap.size < xw5.heap.size + 1 := by refine ⟨?_, ?_, ?_, ?_, ?_, ?_, ?_, ?_⟩ <;> omega
  have hBx5 : Below w.heap.size w xw5 := (by (repeat (first | (with_reducible refine Below.drew ?_) | (with_reducible refine below_drewN ?_ _) | (with_reducible refine Below.alloc ?_ (by first | omega | (simp; done) | (simp; omega) | (simp at *; omega)) _) | (with_reducible refine Below.setCell ?_ (by first | omega | (simp; done) | (simp; omega) | (simp at *; omega)) _) | (with_reducible exact Below.refl _ _) | (with_reducible assumption) | (with_reducible refine Below.trans ?_ (Below.mono (by assumption) (by first | omega | (simp; done) | (simp; omega) | (simp at *; omega)))))))
  clear hbx5 x4_0_0 x4_0_1 x4o0 x4n0 x4m0 x4t0_0 hBx4
  go_wp2_with ((go_at_call 23; ((with_reducible refine (isMin_is _ _ _ hM).mono ?_)); rintro e w' ⟨rfl, rfl⟩))
  go_ret
  exact ⟨rfl, hBx5⟩
set_option maxRecDepth 100000 in
set_option maxHeartbeats 2000000 in
theorem siteLev_m (m t : Int) (L : List Wv) (A : Option Addr) (n cap : Nat) (w : World) (hn : Hid (n = L.length)) (hl : n ≤ 12) (hF : Hid (fewB n = true)) (HR : Hid (∀ w' : World, Below w.heap.size w w' → SlRows wvV 3 w' A L)) (CA : Hid (A = none → n = 0 ∧ cap = 0)) (hE : Hid (tidE m L = 0)) (hM : Hid (inB t 0 1000000 = false)) (hlv : Hid (lvlE m L t = 2)) :
    Calls Tryz.prog 5 #[.agg #[.int .i64 m, .slice A n cap], .int .i64 t] w fun e w' => e = .returned (.bool true) ∧ Below w.heap.size w w' := by
  go_enter Tryz.func5, Tryz.ntmps5
  go_wp2_with fail
  refine (awake_any _).mono ?_
  rintro e xw1 ⟨rfl, hbx1⟩
  have zx1 := hbx1.size
  try simp at zx1
  obtain ⟨x1_0_0, x1_0_1⟩ : xw1.cell? ⟨w.heap.size, 0, none⟩ = some (.int .i64 m) ∧ xw1.cell? ⟨w.heap.size, 1, none⟩ = some (.slice A n cap) := by refine ⟨?_, ?_⟩ <;> (rw [(bcell hbx1).1 _ _ (by first | (simp; done) | (simp; omega) | omega)]; simp [go_sem, World.cell?_alloc_past, *])
  obtain ⟨x1o0, x1n0, x1m0, x1t0_0⟩ : w.heap.size < xw1.heap.size ∧ xw1.heap.size ≠ w.heap.size ∧ w.heap.size ≠ xw1.heap.size ∧ w.heap.size < xw1.heap.size + 1 := by refine ⟨?_, ?_, ?_, ?_⟩ <;> omega
  have hBx1 : Below w.heap.size w xw1 := (by (repeat (first | (with_reducible refine Below.drew ?_) | (with_reducible refine below_drewN ?_ _) | (with_reducible refine Below.alloc ?_ (by first | omega | (simp; done) | (simp; omega) | (simp at *; omega)) _) | (with_reducible refine Below.setCell ?_ (by first | omega | (simp; done) | (simp; omega) | (simp at *; omega)) _) | (with_reducible exact Below.refl _ _) | (with_reducible assumption) | (with_reducible refine Below.trans ?_ (Below.mono (by assumption) (by first | omega | (simp; done) | (simp; omega) | (simp at *; omega)))))))
  clear hbx1 
  go_wp2_with fail
  refine (few_is m A n cap true _ (by omega) hF).mono ?_
  rintro e xw2 ⟨rfl, hbx2⟩
  have zx2 := hbx2.size
  try simp at zx2
  obtain ⟨x2_0_0, x2_0_1⟩ : xw2.cell? ⟨w.heap.size, 0, none⟩ = some (.int .i64 m) ∧ xw2.cell? ⟨w.heap.size, 1, none⟩ = some (.slice A n cap) := by refine ⟨?_, ?_⟩ <;> (rw [(bcell hbx2).1 _ _ (by first | (simp; done) | (simp; omega) | omega)]; simp [go_sem, World.cell?_alloc_past, *])
  obtain ⟨x2o0, x2n0, x2m0, x2t0_0⟩ : w.heap.size < xw2.heap.size ∧ xw2.heap.size ≠ w.heap.size ∧ w.heap.size ≠ xw2.heap.size ∧ w.heap.size < xw2.heap.size + 1 := by refine ⟨?_, ?_, ?_, ?_⟩ <;> omega
  have hBx2 : Below w.heap.size w xw2 := (by (repeat (first | (with_reducible refine Below.drew ?_) | (with_reducible refine below_drewN ?_ _) | (with_reducible refine Below.alloc ?_ (by first | omega | (simp; done) | (simp; omega) | (simp at *; omega)) _) | (with_reducible refine Below.setCell ?_ (by first | omega | (simp; done) | (simp; omega) | (simp at *; omega)) _) | (with_reducible exact Below.refl _ _) | (with_reducible assumption) | (with_reducible refine Below.trans ?_ (Below.mono (by assumption) (by first | omega | (simp; done) | (simp; omega) | (simp at *; omega)))))))
  clear hbx2 x1_0_0 x1_0_1 x1o0 x1n0 x1m0 x1t0_0 hBx1
  go_wp2_with fail
  refine (own_is m L A n cap _ hn (by omega) (Lib.hid (HR.out _ hBx2)) CA).mono ?_
  rintro e xw3 ⟨G, cg, rfl, hG, hbx3⟩
  have zx3 := hbx3.size
  try simp at zx3
  obtain ⟨x3_0_0, x3_0_1⟩ : xw3.cell? ⟨w.heap.size, 0, none⟩ = some (.int .i64 m) ∧ xw3.cell? ⟨w.heap.size, 1, none⟩ = some (.slice A n cap) := by refine ⟨?_, ?_⟩ <;> (rw [(bcell hbx3).1 _ _ (by first | (simp; done) | (simp; omega) | omega)]; simp [go_sem, World.cell?_alloc_past, *])
  obtain ⟨x3o0, x3n0, x3m0, x3t0_0⟩ : w.heap.size < xw3.heap.size ∧ xw3.heap.size ≠ w.heap.size ∧ w.heap.size ≠ xw3.heap.size ∧ w.heap.size < xw3.heap.size + 1 := by refine ⟨?_, ?_, ?_, ?_⟩ <;> omega
  have hBx3 : Below w.heap.size w xw3 := (by (repeat (first | (with_reducible refine Below.drew ?_) | (with_reducible refine below_drewN ?_ _) | (with_reducible refine Below.alloc ?_ (by first | omega | (simp; done) | (simp; omega) | (simp at *; omega)) _) | (with_reducible refine Below.setCell ?_ (by first | omega | (simp; done) | (simp; omega) | (simp at *; omega)) _) | (with_reducible exact Below.refl _ _) | (with_reducible assumption) | (with_reducible refine Below.trans ?_ (Below.mono (by assumption) (by first | omega | (simp; done) | (simp; omega) | (simp at *; omega)))))))
  clear hbx3 x2_0_0 x2_0_1 x2o0 x2n0 x2m0 x2t0_0 hBx2
  have HG := Lib.hid hG
  clear hG
  go_wp2_with fail
  refine (LevelAt_bad m L G cg n t 2 _ hn (by omega) HG hlv (by decide)).mono ?_
  rintro e xw4 ⟨rfl, hbx4⟩
  have zx4 := hbx4.size
  try simp at zx4
  obtain ⟨x4_0_0, x4_0_1⟩ : xw4.cell? ⟨w.heap.size, 0, none⟩ = some (.int .i64 m) ∧ xw4.cell? ⟨w.heap.size, 1, none⟩ = some (.slice A n cap) := by refine ⟨?_, ?_⟩ <;> (rw [(bcell hbx4).1 _ _ (by first | (simp; done) | (simp; omega) | omega)]; simp [go_sem, World.cell?_alloc_past, *])
  obtain ⟨x4o0, x4n0, x4m0, x4t0_0⟩ : w.heap.size < xw4.heap.size ∧ xw4.heap.size ≠ w.heap.size ∧ w.heap.size ≠ xw4.heap.size ∧ w.heap.size < xw4.heap.size + 1 := by refine ⟨?_, ?_, ?_, ?_⟩ <;> omega
  have hBx4 : Below w.heap.size w xw4 := (by (repeat (first | (with_reducible refine Below.drew ?_) | (with_reducible refine below_drewN ?_ _) | (with_reducible refine Below.alloc ?_ (by first | omega | (simp; done) | (simp; omega) | (simp at *; omega)) _) | (with_reducible refine Below.setCell ?_ (by first | omega | (simp; done) | (simp; omega) | (simp at *; omega)) _) | (with_reducible exact Below.refl _ _) | (with_reducible assumption) | (with_reducible refine Below.trans ?_ (Below.mono (by assumption) (by first | omega | (simp; done) | (simp; omega) | (simp at *; omega)))))))
  clear hbx4 x3_0_0 x3_0_1 x3o0 x3n0 x3m0 x3t0_0 hBx3
  go_wp2_with fail
  refine (refTide_is m L A cap n 0 _ hn (by omega) (Lib.hid (HR.out _ (by (repeat (first | (with_reducible refine Below.drew ?_) | (with_reducible refine below_drewN ?_ _) | (with_reducible refine Below.alloc ?_ (by first | omega | (simp; done) | (simp; omega) | (simp at *; omega)) _) | (with_reducible refine Below.setCell ?_ (by first | omega | (simp; done) | (simp; omega) | (simp at *; omega)) _) | (with_reducible exact Below.refl _ _) | (with_reducible assumption) | (with_reducible refine Below.trans ?_ (Below.mono (by assumption) (by first | omega | (simp; done) | (simp; omega) | (simp at *; omega))))))))) hE).mono ?_
  rintro e xw5 ⟨rfl, hbx5⟩
  have zx5 := hbx5.size
  try simp at zx5
  obtain ⟨x5_0_0, x5_0_1, x5_1_0, x5_1_1⟩ : xw5.cell? ⟨w.heap.size, 0, none⟩ = some (.int .i64 m) ∧ xw5.cell? ⟨w.heap.size, 1, none⟩ = some (.slice A n cap) ∧ xw5.cell? ⟨xw4.heap.size, 0, none⟩ = some (.int .i64 0) ∧ xw5.cell? ⟨xw4.heap.size, 1, none⟩ = some (.int .i64 0) := by refine ⟨?_, ?_, ?_, ?_⟩ <;> (rw [(bcell hbx5).1 _ _ (by first | (simp; done) | (simp; omega) | omega)]; simp [go_sem, World.cell?_alloc_past, *])
  obtain ⟨x5o0, x5n0, x5m0, x5t0_0, x5o1, x5n1, x5m1, x5t1_0⟩ : w.heap.size < xw5.heap.size ∧ xw5.heap.size ≠ w.heap.size ∧ w.heap.size ≠ xw5.heap.size ∧ w.heap.size < xw5.heap.size + 1 ∧ xw4.heap.size < xw5.heap.size ∧ xw5.heap.size ≠ xw4.heap.size ∧ xw4.heap.size ≠ xw5.heap.size ∧ xw4.heap.size < xw5.heap.size + 1 := by refine ⟨?_, ?_, ?_, ?_, ?_, ?_, ?_, ?_⟩ <;> omega
  have hBx5 : Below w.heap.size w xw5 := (by (repeat (first | (with_reducible refine Below.drew ?_) | (with_reducible refine below_drewN ?_ _) | (with_reducible refine Below.alloc ?_ (by first | omega | (simp; done) | (simp; omega) | (simp at *; omega)) _) | (with_reducible refine Below.setCell ?_ (by first | omega | (simp; done) | (simp; omega) | (simp at *; omega)) _) | (with_reducible exact Below.refl _ _) | (with_reducible assumption) | (with_reducible refine Below.trans ?_ (Below.mono (by assumption) (by first | omega | (simp; done) | (simp; omega) | (simp at *; omega)))))))
  clear hbx5 x4_0_0 x4_0_1 x4o0 x4n0 x4m0 x4t0_0 hBx4
  go_wp2_with ((go_at_call 23; ((with_reducible refine (isMin_is _ _ _ hM).mono ?_)); rintro e w' ⟨rfl, rfl⟩))
  go_ret
  exact ⟨rfl, hBx5⟩
set_option maxRecDepth 100000 in
set_option maxHeartbeats 4000000 in
theorem siteLev_g (m t x y S : Int) (L : List Wv) (A : Option Addr) (n cap : Nat) (w : World) (hn : Hid (n = L.length)) (hl : n ≤ 10) (hF : Hid (fewB n = true)) (HR : Hid (∀ w' : World, Below w.heap.size w w' → SlRows wvV 3 w' A L)) (CA : Hid (A = none → n = 0 ∧ cap = 0)) (hE : Hid (tidE m L = 0)) (hM : Hid (inB t 0 1000000 = true)) (hlv : Hid (lvlE m L t = 0))
    (HW : Hid (∀ x ∈ L, WvOk x)) (m0 : -100000 ≤ m) (m1 : m ≤ 100000) (t0 : 0 ≤ t) (t1 : t ≤ 1000000) (hx : Hid (levLo m L t = x)) (hy : Hid (levHi m L t = y)) (hH : Hid (sumH L = S)) (b1 : m - S ≤ x) (b2 : x ≤ y) (b3 : y ≤ m + S) :
    Calls Tryz.prog 5 #[.agg #[.int .i64 m, .slice A n cap], .int .i64 t] w fun e w' => e = .returned (.bool true) ∧ Below w.heap.size w w' := by
  go_enter Tryz.func5, Tryz.ntmps5
  go_wp2_with fail
  refine (awake_any _).mono ?_
  rintro e xw1 ⟨rfl, hbx1⟩
  have zx1 := hbx1.size
  try simp at zx1
  obtain ⟨x1_0_0, x1_0_1⟩ : xw1.cell? ⟨w.heap.size, 0, none⟩ = some (.int .i64 m) ∧ xw1.cell? ⟨w.heap.size, 1, none⟩ = some (.slice A n cap) := by refine ⟨?_, ?_⟩ <;> (rw [(bcell hbx1).1 _ _ (by first | (simp; done) | (simp; omega) | omega)]; simp [go_sem, World.cell?_alloc_past, *])
  obtain ⟨x1o0, x1n0, x1m0, x1t0_0⟩ : w.heap.size < xw1.heap.size ∧ xw1.heap.size ≠ w.heap.size ∧ w.heap.size ≠ xw1.heap.size ∧ w.heap.size < xw1.heap.size + 1 := by refine ⟨?_, ?_, ?_, ?_⟩ <;> omega
  have hBx1 : Below w.heap.size w xw1 := (by (repeat (first | (with_reducible refine Below.drew ?_) | (with_reducible refine below_drewN ?_ _) | (with_reducible refine Below.alloc ?_ (by first | omega | (simp; done) | (simp; omega) | (simp at *; omega)) _) | (with_reducible refine Below.setCell ?_ (by first | omega | (simp; done) | (simp; omega) | (simp at *; omega)) _) | (with_reducible exact Below.refl _ _) | (with_reducible assumption) | (with_reducible refine Below.trans ?_ (Below.mono (by assumption) (by first | omega | (simp; done) | (simp; omega) | (simp at *; omega)))))))
  clear hbx1 
  go_wp2_with fail
  refine (few_is m A n cap true _ (by omega) hF).mono ?_
  rintro e xw2 ⟨rfl, hbx2⟩
  have zx2 := hbx2.size
  try simp at zx2
  obtain ⟨x2_0_0, x2_0_1⟩ : xw2.cell? ⟨w.heap.size, 0, none⟩ = some (.int .i64 m) ∧ xw2.cell? ⟨w.heap.size, 1, none⟩ = some (.slice A n cap) := by refine ⟨?_, ?_⟩ <;> (rw [(bcell hbx2).1 _ _ (by first | (simp; done) | (simp; omega) | omega)]; simp [go_sem, World.cell?_alloc_past, *])
  obtain ⟨x2o0, x2n0, x2m0, x2t0_0⟩ : w.heap.size < xw2.heap.size ∧ xw2.heap.size ≠ w.heap.size ∧ w.heap.size ≠ xw2.heap.size ∧ w.heap.size < xw2.heap.size + 1 := by refine ⟨?_, ?_, ?_, ?_⟩ <;> omega
  have hBx2 : Below w.heap.size w xw2 := (by (repeat (first | (with_reducible refine Below.drew ?_) | (with_reducible refine below_drewN ?_ _) | (with_reducible refine Below.alloc ?_ (by first | omega | (simp; done) | (simp; omega) | (simp at *; omega)) _) | (with_reducible refine Below.setCell ?_ (by first | omega | (simp; done) | (simp; omega) | (simp at *; omega)) _) | (with_reducible exact Below.refl _ _) | (with_reducible assumption) | (with_reducible refine Below.trans ?_ (Below.mono (by assumption) (by first | omega | (simp; done) | (simp; omega) | (simp at *; omega)))))))
  clear hbx2 x1_0_0 x1_0_1 x1o0 x1n0 x1m0 x1t0_0 hBx1
  go_wp2_with fail
  refine (own_is m L A n cap _ hn (by omega) (Lib.hid (HR.out _ hBx2)) CA).mono ?_
  rintro e xw3 ⟨G, cg, rfl, hG, hbx3⟩
  have zx3 := hbx3.size
  try simp at zx3
  obtain ⟨x3_0_0, x3_0_1⟩ : xw3.cell? ⟨w.heap.size, 0, none⟩ = some (.int .i64 m) ∧ xw3.cell? ⟨w.heap.size, 1, none⟩ = some (.slice A n cap) := by refine ⟨?_, ?_⟩ <;> (rw [(bcell hbx3).1 _ _ (by first | (simp; done) | (simp; omega) | omega)]; simp [go_sem, World.cell?_alloc_past, *])
  obtain ⟨x3o0, x3n0, x3m0, x3t0_0⟩ : w.heap.size < xw3.heap.size ∧ xw3.heap.size ≠ w.heap.size ∧ w.heap.size ≠ xw3.heap.size ∧ w.heap.size < xw3.heap.size + 1 := by refine ⟨?_, ?_, ?_, ?_⟩ <;> omega
  have hBx3 : Below w.heap.size w xw3 := (by (repeat (first | (with_reducible refine Below.drew ?_) | (with_reducible refine below_drewN ?_ _) | (with_reducible refine Below.alloc ?_ (by first | omega | (simp; done) | (simp; omega) | (simp at *; omega)) _) | (with_reducible refine Below.setCell ?_ (by first | omega | (simp; done) | (simp; omega) | (simp at *; omega)) _) | (with_reducible exact Below.refl _ _) | (with_reducible assumption) | (with_reducible refine Below.trans ?_ (Below.mono (by assumption) (by first | omega | (simp; done) | (simp; omega) | (simp at *; omega)))))))
  clear hbx3 x2_0_0 x2_0_1 x2o0 x2n0 x2m0 x2t0_0 hBx2
  have HG := Lib.hid hG
  clear hG
  go_wp2_with fail
  refine (LevelAt_good m L G cg n t x y _ hn (by omega) HG hlv hx hy).mono ?_
  rintro e xw4 ⟨rfl, hbx4⟩
  have zx4 := hbx4.size
  try simp at zx4
  obtain ⟨x4_0_0, x4_0_1⟩ : xw4.cell? ⟨w.heap.size, 0, none⟩ = some (.int .i64 m) ∧ xw4.cell? ⟨w.heap.size, 1, none⟩ = some (.slice A n cap) := by refine ⟨?_, ?_⟩ <;> (rw [(bcell hbx4).1 _ _ (by first | (simp; done) | (simp; omega) | omega)]; simp [go_sem, World.cell?_alloc_past, *])
  obtain ⟨x4o0, x4n0, x4m0, x4t0_0⟩ : w.heap.size < xw4.heap.size ∧ xw4.heap.size ≠ w.heap.size ∧ w.heap.size ≠ xw4.heap.size ∧ w.heap.size < xw4.heap.size + 1 := by refine ⟨?_, ?_, ?_, ?_⟩ <;> omega
  have hBx4 : Below w.heap.size w xw4 := (by (repeat (first | (with_reducible refine Below.drew ?_) | (with_reducible refine below_drewN ?_ _) | (with_reducible refine Below.alloc ?_ (by first | omega | (simp; done) | (simp; omega) | (simp at *; omega)) _) | (with_reducible refine Below.setCell ?_ (by first | omega | (simp; done) | (simp; omega) | (simp at *; omega)) _) | (with_reducible exact Below.refl _ _) | (with_reducible assumption) | (with_reducible refine Below.trans ?_ (Below.mono (by assumption) (by first | omega | (simp; done) | (simp; omega) | (simp at *; omega)))))))
  clear hbx4 x3_0_0 x3_0_1 x3o0 x3n0 x3m0 x3t0_0 hBx3
  go_wp2_with fail
  refine (refTide_is m L A cap n 0 _ hn (by omega) (Lib.hid (HR.out _ (by (repeat (first | (with_reducible refine Below.drew ?_) | (with_reducible refine below_drewN ?_ _) | (with_reducible refine Below.alloc ?_ (by first | omega | (simp; done) | (simp; omega) | (simp at *; omega)) _) | (with_reducible refine Below.setCell ?_ (by first | omega | (simp; done) | (simp; omega) | (simp at *; omega)) _) | (with_reducible exact Below.refl _ _) | (with_reducible assumption) | (with_reducible refine Below.trans ?_ (Below.mono (by assumption) (by first | omega | (simp; done) | (simp; omega) | (simp at *; omega))))))))) hE).mono ?_
  rintro e xw5 ⟨rfl, hbx5⟩
  have zx5 := hbx5.size
  try simp at zx5
  obtain ⟨x5_0_0, x5_0_1, x5_1_0, x5_1_1⟩ : xw5.cell? ⟨w.heap.size, 0, none⟩ = some (.int .i64 m) ∧ xw5.cell? ⟨w.heap.size, 1, none⟩ = some (.slice A n cap) ∧ xw5.cell? ⟨xw4.heap.size, 0, none⟩ = some (.int .i64 x) ∧ xw5.cell? ⟨xw4.heap.size, 1, none⟩ = some (.int .i64 y) := by refine ⟨?_, ?_, ?_, ?_⟩ <;> (rw [(bcell hbx5).1 _ _ (by first | (simp; done) | (simp; omega) | omega)]; simp [go_sem, World.cell?_alloc_past, *])
  obtain ⟨x5o0, x5n0, x5m0, x5t0_0, x5o1, x5n1, x5m1, x5t1_0⟩ : w.heap.size < xw5.heap.size ∧ xw5.heap.size ≠ w.heap.size ∧ w.heap.size ≠ xw5.heap.size ∧ w.heap.size < xw5.heap.size + 1 ∧ xw4.heap.size < xw5.heap.size ∧ xw5.heap.size ≠ xw4.heap.size ∧ xw4.heap.size ≠ xw5.heap.size ∧ xw4.heap.size < xw5.heap.size + 1 := by refine ⟨?_, ?_, ?_, ?_, ?_, ?_, ?_, ?_⟩ <;> omega
  have hBx5 : Below w.heap.size w xw5 := (by (repeat (first | (with_reducible refine Below.drew ?_) | (with_reducible refine below_drewN ?_ _) | (with_reducible refine Below.alloc ?_ (by first | omega | (simp; done) | (simp; omega) | (simp at *; omega)) _) | (with_reducible refine Below.setCell ?_ (by first | omega | (simp; done) | (simp; omega) | (simp at *; omega)) _) | (with_reducible exact Below.refl _ _) | (with_reducible assumption) | (with_reducible refine Below.trans ?_ (Below.mono (by assumption) (by first | omega | (simp; done) | (simp; omega) | (simp at *; omega)))))))
  clear hbx5 x4_0_0 x4_0_1 x4o0 x4n0 x4m0 x4t0_0 hBx4
  go_upto_region 12 with ((go_at_call 23; ((with_reducible refine (isMin_is _ _ _ hM).mono ?_)); rintro e w' ⟨rfl, rfl⟩))
  clear HG
  go_wp2_with fail
  go_loopw [8, 9] (fun s i wr => ∃ (k : Nat) (z : Int), s = .int .i64 z ∧ i = .int .i64 k ∧ k ≤ n ∧ Hid (sumH (L.take k) = z) ∧ wr.cell? ⟨w.heap.size, 0, none⟩ = some (.int .i64 m) ∧ wr.cell? ⟨w.heap.size, 1, none⟩ = some (.slice A n cap) ∧ wr.cell? ⟨xw4.heap.size, 0, none⟩ = some (.int .i64 x) ∧ wr.cell? ⟨xw4.heap.size, 1, none⟩ = some (.int .i64 y) ∧ xw4.heap.size < wr.heap.size ∧ Below w.heap.size w wr) (fun _ i _ => n - (intOf i).toNat)
  case atStart => exact ⟨0, 0, rfl, rfl, by omega, Lib.hid rfl, by simp [go_sem, *], by simp [go_sem, *], by simp [go_sem, *], by simp [go_sem, *], by omega, (by (repeat (first | (with_reducible refine Below.drew ?_) | (with_reducible refine below_drewN ?_ _) | (with_reducible refine Below.alloc ?_ (by first | omega | (simp; done) | (simp; omega) | (simp at *; omega)) _) | (with_reducible refine Below.setCell ?_ (by first | omega | (simp; done) | (simp; omega) | (simp at *; omega)) _) | (with_reducible exact Below.refl _ _) | (with_reducible assumption) | (with_reducible refine Below.trans ?_ (Below.mono (by assumption) (by first | omega | (simp; done) | (simp; omega) | (simp at *; omega)))))))⟩
  case round =>
    obtain ⟨k, z, rfl, rfl, hk, hz, c0, c1, r0, r1, sz, hB⟩ := hrel
    have hlen : ((L.take k).length : Int) ≤ 10 := by rw [List.length_take]; omega
    have bd := sumH_bd (L := L.take k) (fun x hx => HW.out x (List.mem_of_mem_take hx)) t
    rw [hz.out] at bd
    have zb0 : 0 ≤ z := bd.2.2.2.1
    have zb1 : z ≤ 1000000 := by have := bd.2.2.2.2; omega
    clear bd hlen
    by_cases hkn : k < n
    · have hkl : k < L.length := by have := hn.out; omega
      have kn : (k : Int) < (n : Int) := by omega
      rcases HR.out _ hB with h0 | ⟨b, off, rfl, hlt, hR⟩
      · rw [h0] at hkl; simp at hkl
      obtain ⟨e0, e1, e2⟩ := wv_at hR hkl
      have hok := HW.out _ (List.getElem_mem hkl)
      obtain ⟨⟨h, p, f⟩, hq⟩ : ∃ x, Hid (L[k] = x) := ⟨L[k], Lib.hid rfl⟩
      have hz2 : Hid (sumH (L.take (k + 1)) = z + h) := Lib.hid (by rw [List.take_succ_eq_append_getElem hkl, sumH_snoc, hz.out, hq.out])
      rw [hq.out] at e0 e1 e2 hok
      dsimp only at e0 e1 e2
      have hh0 : 0 ≤ h := hok.h0
      have hh1 : h ≤ 100000 := hok.h1
      have w1 : IntKind.i64.wrap (z + h) = z + h := IntWalk.i64_in _ (by omega)
      clear hz hR hq
      go_wp2
      go_roundw
      case rel => exact ⟨k + 1, z + h, by go_num, by go_num, by omega, hz2, by simp [go_sem, *], by simp [go_sem, *], by simp [go_sem, *], by simp [go_sem, *], by first | omega | (simp; omega), (by (repeat (first | (with_reducible refine Below.drew ?_) | (with_reducible refine below_drewN ?_ _) | (with_reducible refine Below.alloc ?_ (by first | omega | (simp; done) | (simp; omega) | (simp at *; omega)) _) | (with_reducible refine Below.setCell ?_ (by first | omega | (simp; done) | (simp; omega) | (simp at *; omega)) _) | (with_reducible exact Below.refl _ _) | (with_reducible assumption) | (with_reducible refine Below.trans ?_ (Below.mono (by assumption) (by first | omega | (simp; done) | (simp; omega) | (simp at *; omega)))))))⟩
      case measure => (simp [intOf]) <;> omega
    · have hkk : k = n := by omega
      subst hkk
      have hz2 := hz.out
      rw [hn.out, List.take_length, hH.out] at hz2
      subst hz2
      have w1 : IntKind.i64.wrap (m - S) = m - S := IntWalk.i64_in _ (by omega)
      have w2 : IntKind.i64.wrap (m + S) = m + S := IntWalk.i64_in _ (by omega)
      have n1 : w.heap.size < wr.heap.size := by have := hB.size; omega
      have n2 : wr.heap.size ≠ w.heap.size := by omega
      have n3 : w.heap.size ≠ wr.heap.size := by omega
      go_upto_region 16 with (fail)
      refine wp_region_held_drew (S := (fun w' => w'.cell? ⟨w.heap.size, 0, none⟩ = some (.int .i64 m) ∧ w'.cell? ⟨w.heap.size, 1, none⟩ = some (.slice A k cap) ∧ w'.cell? ⟨xw4.heap.size, 0, none⟩ = some (.int .i64 x) ∧ w'.cell? ⟨xw4.heap.size, 1, none⟩ = some (.int .i64 y))) (by kernel_rfl) (by simp [go_sem, World.cell?_alloc_past, *]) (fun hHeld => ?_)
      refine tkH 0 ⟨some 56, _, _, _, _, _⟩ ?_ rfl ?_ (by assumption) ?_
      rotate_left
      · (intro w hSw; (try dsimp only at hSw); go_simp; all_goals with_reducible rfl)
      try simp only [Act.put, sA, sB, sC]
      refine tkH 1 ⟨some 57, _, _, _, _, _⟩ ?_ rfl ?_ (by assumption) ?_
      rotate_left
      · (intro w hSw; (try dsimp only at hSw); go_simp; all_goals with_reducible rfl)
      try simp only [Act.put, sA, sB, sC]
      refine tkH 2 ⟨some 58, _, _, _, _, _⟩ ?_ rfl ?_ (by assumption) ?_
      rotate_left
      · (intro w hSw; (try dsimp only at hSw); go_simp; all_goals with_reducible rfl)
      try simp only [Act.put, sA, sB, sC]
      refine tkH 3 ⟨some 59, _, _, _, _, _⟩ ?_ rfl ?_ (by assumption) ?_
      rotate_left
      · (intro w hSw; (try dsimp only at hSw); go_simp; all_goals with_reducible rfl)
      try simp only [Act.put, sA, sB, sC]
      refine tkH 4 ⟨some 60, _, _, _, _, _⟩ ?_ rfl ?_ (by assumption) ?_
      rotate_left
      · (intro w hSw; (try dsimp only at hSw); go_simp; all_goals with_reducible rfl)
      try simp only [Act.put, sA, sB, sC]
      refine tkH 5 ⟨some 61, _, _, _, _, _⟩ ?_ rfl ?_ (by assumption) ?_
      rotate_left
      · (intro w hSw; (try dsimp only at hSw); go_simp; all_goals with_reducible rfl)
      try simp only [Act.put, sA, sB, sC]
      refine wpAnyH_ready (rs := [6]) (by kernel_rfl) (by simp) ?_
      refine AllReadyH.cons rfl (fun K hK => ?_) AllReadyH.nil
      go_simp
      refine (refLevel_is m L A cap k t x y _ hn (by omega) HW (by omega) (by omega) t0 (by omega) (Lib.hid (HR.out _ (by (repeat (first | (with_reducible refine Below.drew ?_) | (with_reducible refine below_drewN ?_ _) | (with_reducible refine Below.alloc ?_ (by first | omega | (simp; done) | (simp; omega) | (simp at *; omega)) _) | (with_reducible refine Below.setCell ?_ (by first | omega | (simp; done) | (simp; omega) | (simp at *; omega)) _) | (with_reducible exact Below.refl _ _) | (with_reducible assumption) | (with_reducible refine Below.trans ?_ (Below.mono (by assumption) (by first | omega | (simp; done) | (simp; omega) | (simp at *; omega))))))))) hx hy).mono ?_
      rintro e yw1 ⟨rfl, hby1⟩
      have zy1 := hby1.size
      try simp at zy1
      obtain ⟨y1_0_0, y1_0_1, y1_1_0, y1_1_1⟩ : yw1.cell? ⟨w.heap.size, 0, none⟩ = some (.int .i64 m) ∧ yw1.cell? ⟨w.heap.size, 1, none⟩ = some (.slice A k cap) ∧ yw1.cell? ⟨xw4.heap.size, 0, none⟩ = some (.int .i64 x) ∧ yw1.cell? ⟨xw4.heap.size, 1, none⟩ = some (.int .i64 y) := by refine ⟨?_, ?_, ?_, ?_⟩ <;> (rw [(bcell hby1).1 _ _ (by first | (simp; done) | (simp; omega) | omega)]; simp [go_sem, World.cell?_alloc_past, *])
      obtain ⟨y1o0, y1n0, y1m0, y1t0_0, y1o1, y1n1, y1m1, y1t1_0⟩ : w.heap.size < yw1.heap.size ∧ yw1.heap.size ≠ w.heap.size ∧ w.heap.size ≠ yw1.heap.size ∧ w.heap.size < yw1.heap.size + 1 ∧ xw4.heap.size < yw1.heap.size ∧ yw1.heap.size ≠ xw4.heap.size ∧ xw4.heap.size ≠ yw1.heap.size ∧ xw4.heap.size < yw1.heap.size + 1 := by refine ⟨?_, ?_, ?_, ?_, ?_, ?_, ?_, ?_⟩ <;> omega
      have hBy1 : Below w.heap.size w yw1 := (by (repeat (first | (with_reducible refine Below.drew ?_) | (with_reducible refine below_drewN ?_ _) | (with_reducible refine Below.alloc ?_ (by first | omega | (simp; done) | (simp; omega) | (simp at *; omega)) _) | (with_reducible refine Below.setCell ?_ (by first | omega | (simp; done) | (simp; omega) | (simp at *; omega)) _) | (with_reducible exact Below.refl _ _) | (with_reducible assumption) | (with_reducible refine Below.trans ?_ (Below.mono (by assumption) (by first | omega | (simp; done) | (simp; omega) | (simp at *; omega)))))))
      clear hby1 
      go_wp2_with fail
      refine hK.out _ _ (by simp [go_sem, World.cell?_alloc_past, *]) (fun hHeld => ?_)
      clear hK K
      try simp only [Act.put, sA, sB, sC]
      refine tkH 7 ⟨some 63, _, _, _, _, _⟩ ?_ rfl ?_ (by assumption) ?_
      rotate_left
      · (intro w hSw; (try dsimp only at hSw); go_simp; all_goals with_reducible rfl)
      try simp only [Act.put, sA, sB, sC]
      refine tkH 8 ⟨some 64, _, _, _, _, _⟩ ?_ rfl ?_ (by assumption) ?_
      rotate_left
      · (intro w hSw; (try dsimp only at hSw); go_simp; all_goals with_reducible rfl)
      try simp only [Act.put, sA, sB, sC]
      refine tkH 9 ⟨some 65, _, _, _, _, _⟩ ?_ rfl ?_ (by assumption) ?_
      rotate_left
      · (intro w hSw; (try dsimp only at hSw); go_simp; all_goals with_reducible rfl)
      try simp only [Act.put, sA, sB, sC]
      refine tkH 10 ⟨some 66, _, _, _, _, _⟩ ?_ rfl ?_ (by assumption) ?_
      rotate_left
      · (intro w hSw; (try dsimp only at hSw); go_simp; all_goals with_reducible rfl)
      try simp only [Act.put, sA, sB, sC]
      refine tkH 11 ⟨some 67, _, _, _, _, _⟩ ?_ rfl ?_ (by assumption) ?_
      rotate_left
      · (intro w hSw; (try dsimp only at hSw); go_simp; all_goals with_reducible rfl)
      try simp only [Act.put, sA, sB, sC]
      refine tkH 12 ⟨some 68, _, _, _, _, _⟩ ?_ rfl ?_ (by assumption) ?_
      rotate_left
      · (intro w hSw; (try dsimp only at hSw); go_simp; all_goals with_reducible rfl)
      try simp only [Act.put, sA, sB, sC]
      refine tkH 13 ⟨some 69, _, _, _, _, _⟩ ?_ rfl ?_ (by assumption) ?_
      rotate_left
      · (intro w hSw; (try dsimp only at hSw); go_simp; all_goals with_reducible rfl)
      try simp only [Act.put, sA, sB, sC]
      refine tkH 14 ⟨some 70, _, _, _, _, _⟩ ?_ rfl ?_ (by assumption) ?_
      rotate_left
      · (intro w hSw; (try dsimp only at hSw); go_simp; all_goals with_reducible rfl)
      try simp only [Act.put, sA, sB, sC]
      refine tkH 15 ⟨some 71, _, _, _, _, _⟩ ?_ rfl ?_ (by assumption) ?_
      rotate_left
      · (intro w hSw; (try dsimp only at hSw); go_simp; all_goals with_reducible rfl)
      try simp only [Act.put, sA, sB, sC]
      refine tkH 16 ⟨some 72, _, _, _, _, _⟩ ?_ rfl ?_ (by assumption) ?_
      rotate_left
      · (intro w hSw; (try dsimp only at hSw); go_simp; all_goals with_reducible rfl)
      try simp only [Act.put, sA, sB, sC]
      try rw [show decide (m - S ≤ x) = true from decide_eq_true (by omega)]
      refine tkH 17 ⟨some 73, _, _, _, _, _⟩ ?_ rfl ?_ (by assumption) ?_
      rotate_left
      · (intro w hSw; (try dsimp only at hSw); go_simp; all_goals with_reducible rfl)
      try simp only [Act.put, sA, sB, sC]
      refine tkH 18 ⟨some 74, _, _, _, _, _⟩ ?_ rfl ?_ (by assumption) ?_
      rotate_left
      · (intro w hSw; (try dsimp only at hSw); go_simp; all_goals with_reducible rfl)
      try simp only [Act.put, sA, sB, sC]
      refine tkH 19 ⟨some 75, _, _, _, _, _⟩ ?_ rfl ?_ (by assumption) ?_
      rotate_left
      · (intro w hSw; (try dsimp only at hSw); go_simp; all_goals with_reducible rfl)
      try simp only [Act.put, sA, sB, sC]
      refine tkH 20 ⟨some 76, _, _, _, _, _⟩ ?_ rfl ?_ (by assumption) ?_
      rotate_left
      · (intro w hSw; (try dsimp only at hSw); go_simp; all_goals with_reducible rfl)
      try simp only [Act.put, sA, sB, sC]
      refine tkH 21 ⟨some 77, _, _, _, _, _⟩ ?_ rfl ?_ (by assumption) ?_
      rotate_left
      · (intro w hSw; (try dsimp only at hSw); go_simp; all_goals with_reducible rfl)
      try simp only [Act.put, sA, sB, sC]
      refine tkH 22 ⟨some 78, _, _, _, _, _⟩ ?_ rfl ?_ (by assumption) ?_
      rotate_left
      · (intro w hSw; (try dsimp only at hSw); go_simp; all_goals with_reducible rfl)
      try simp only [Act.put, sA, sB, sC]
      refine tkH 23 ⟨some 79, _, _, _, _, _⟩ ?_ rfl ?_ (by assumption) ?_
      rotate_left
      · (intro w hSw; (try dsimp only at hSw); go_simp; all_goals with_reducible rfl)
      try simp only [Act.put, sA, sB, sC]
      try rw [show decide (x ≤ y) = true from decide_eq_true (by omega)]
      refine tkH 24 ⟨some 80, _, _, _, _, _⟩ ?_ rfl ?_ (by assumption) ?_
      rotate_left
      · (intro w hSw; (try dsimp only at hSw); go_simp; all_goals with_reducible rfl)
      try simp only [Act.put, sA, sB, sC]
      refine tkH 25 ⟨some 81, _, _, _, _, _⟩ ?_ rfl ?_ (by assumption) ?_
      rotate_left
      · (intro w hSw; (try dsimp only at hSw); go_simp; all_goals with_reducible rfl)
      try simp only [Act.put, sA, sB, sC]
      refine tkH 26 ⟨some 82, _, _, _, _, _⟩ ?_ rfl ?_ (by assumption) ?_
      rotate_left
      · (intro w hSw; (try dsimp only at hSw); go_simp; all_goals with_reducible rfl)
      try simp only [Act.put, sA, sB, sC]
      refine tkH 27 ⟨some 83, _, _, _, _, _⟩ ?_ rfl ?_ (by assumption) ?_
      rotate_left
      · (intro w hSw; (try dsimp only at hSw); go_simp; all_goals with_reducible rfl)
      try simp only [Act.put, sA, sB, sC]
      refine tkH 28 ⟨some 84, _, _, _, _, _⟩ ?_ rfl ?_ (by assumption) ?_
      rotate_left
      · (intro w hSw; (try dsimp only at hSw); go_simp; all_goals with_reducible rfl)
      try simp only [Act.put, sA, sB, sC]
      refine tkH 29 ⟨some 85, _, _, _, _, _⟩ ?_ rfl ?_ (by assumption) ?_
      rotate_left
      · (intro w hSw; (try dsimp only at hSw); go_simp; all_goals with_reducible rfl)
      try simp only [Act.put, sA, sB, sC]
      refine tkH 30 ⟨some 86, _, _, _, _, _⟩ ?_ rfl ?_ (by assumption) ?_
      rotate_left
      · (intro w hSw; (try dsimp only at hSw); go_simp; all_goals with_reducible rfl)
      try simp only [Act.put, sA, sB, sC]
      refine tkH 31 ⟨some 87, _, _, _, _, _⟩ ?_ rfl ?_ (by assumption) ?_
      rotate_left
      · (intro w hSw; (try dsimp only at hSw); go_simp; all_goals with_reducible rfl)
      try simp only [Act.put, sA, sB, sC]
      refine tkH 32 ⟨some 88, _, _, _, _, _⟩ ?_ rfl ?_ (by assumption) ?_
      rotate_left
      · (intro w hSw; (try dsimp only at hSw); go_simp; all_goals with_reducible rfl)
      try simp only [Act.put, sA, sB, sC]
      try rw [show decide (y ≤ m + S) = true from decide_eq_true (by omega)]
      refine tkH 33 ⟨some 89, _, _, _, _, _⟩ ?_ rfl ?_ (by assumption) ?_
      rotate_left
      · (intro w hSw; (try dsimp only at hSw); go_simp; all_goals with_reducible rfl)
      try simp only [Act.put, sA, sB, sC]
      refine tkH 34 ⟨some 4, _, _, _, _, _⟩ ?_ rfl ?_ (by assumption) ?_
      rotate_left
      · (intro w hSw; (try dsimp only at hSw); go_simp; all_goals with_reducible rfl)
      try simp only [Act.put, sA, sB, sC]
      refine wpAnyH_done (by kernel_rfl) ?_ _
      go_wp2
      go_ret
      exact ⟨rfl, (by (repeat (first | (with_reducible refine Below.drew ?_) | (with_reducible refine below_drewN ?_ _) | (with_reducible refine Below.alloc ?_ (by first | omega | (simp; done) | (simp; omega) | (simp at *; omega)) _) | (with_reducible refine Below.setCell ?_ (by first | omega | (simp; done) | (simp; omega) | (simp at *; omega)) _) | (with_reducible exact Below.refl _ _) | (with_reducible assumption) | (with_reducible refine Below.trans ?_ (Below.mono (by assumption) (by first | omega | (simp; done) | (simp; omega) | (simp at *; omega)))))))⟩
theorem siteLevels_any (m : Int) (L : List Wv) (A : Option Addr) (cap : Nat) (t : Int) (w : World) (hl : L.length ≤ 9223372036854775807) (hca : A = none → cap = 0) (hA : SlRows wvV 3 w A L) :
    Calls Tryz.prog 5 #[.agg #[.int .i64 m, .slice A L.length cap], .int .i64 t] w fun e w' => e = .returned (.bool true) ∧ Below w.heap.size w w' := by
  have HR : Hid (∀ w' : World, Below w.heap.size w w' → SlRows wvV 3 w' A L) := Lib.hid fun w' h => hA.below h
  have CA : Hid (A = none → L.length = 0 ∧ cap = 0) := Lib.hid fun h => by
    refine ⟨?_, hca h⟩
    subst h
    rcases hA with h | ⟨b, off, h, _⟩
    · rw [h]; rfl
    · cases h
  cases hf : fewB L.length with
  | false => exact siteLev_few m t A L.length cap w hl (Lib.hid hf)
  | true =>
    have h12 : L.length ≤ 12 := by unfold fewB at hf; simp at hf; omega
    by_cases h1 : tidE m L = 0
    · obtain ⟨m0, m1, h10, hW⟩ := tidE_ok h1
      rcases inB_cases t 0 1000000 with h2 | h2
      · obtain ⟨t0, t1⟩ := inB_iff.1 h2
        obtain ⟨b1, b2, b3⟩ := lev_in m hW t
        exact siteLev_g m t _ _ _ L A L.length cap w (Lib.hid rfl) h10 (Lib.hid hf) HR CA (Lib.hid h1) (Lib.hid h2) (Lib.hid (by unfold lvlE; rw [h1, rngE_t h2]; rfl)) (Lib.hid hW) m0 m1 t0 t1 (Lib.hid rfl) (Lib.hid rfl) (Lib.hid rfl) b1 b2 b3
      · exact siteLev_m m t L A L.length cap w (Lib.hid rfl) h12 (Lib.hid hf) HR CA (Lib.hid h1) (Lib.hid h2) (Lib.hid (by unfold lvlE; rw [h1, rngE_f h2]; rfl))
    · exact siteLev_t m t _ L A L.length cap w (Lib.hid rfl) h12 (Lib.hid hf) HR CA (Lib.hid rfl) (by simpa using h1) (Lib.hid (by unfold lvlE firE; rw [if_neg h1]))
end Go.Proofs.YtallnjehhoengaaGreat
