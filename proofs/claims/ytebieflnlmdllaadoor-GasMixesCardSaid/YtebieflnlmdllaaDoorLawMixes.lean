/- The walk of shotlinelaw01.GasMixes: it returns true. -/
import Derived.Test.YtebieflnlmdllaaDoorAwake
import Derived.Test.YtebieflnlmdllaaDoorRefMixed2
import Derived.Test.YtebieflnlmdllaaDoorArrF
import Derived.Outline
namespace Go.Proofs.YtebieflnlmdllaaDoor
open Go.ChangeShapes Go.WideShapes Go.ChangeAt Go.RowKit
set_option linter.unusedVariables false
set_option linter.unusedSimpArgs false
attribute [local go_sem ↓] Go.wp_at_zero Go.wp_at_succ

theorem oldCellM {w w' : World} {b o : Nat} {v : Value} (hb : Below w.heap.size w w') (h : w.cell? ⟨b, o, none⟩ = some v) : w'.cell? ⟨b, o, none⟩ = some v :=
  (hb.cell (p := ⟨b, o, none⟩) (by have := World.block_lt_of_cell? _ _ h; simpa using this)).trans h
theorem short_any (A : Option Addr) (k cap : Nat) (w : World) (x : Bool) (hx : Hid (decide (k ≤ 15) = x)) (hk : k ≤ 9223372036854775807) :
    Calls Tryd.prog 54 #[.slice A k cap] w fun e w' => e = .returned (.bool x) ∧ w = w' := by
  go_enter Tryd.func54, Tryd.ntmps54
  go_wp2
  go_ret
  exact ⟨ret_bool (by rw [← hx.out]; first | rfl | (simp; done) | (simp; omega)), rfl⟩
theorem Mixed_is (P : List Part) (b cap : Nat) (r0 r1 r2 r3 r4 r5 E : Int) (w : World) (hl : P.length ≤ 1000) (hlt : b < w.heap.size) (hP : PartsAt w b 0 P) (h0 : Hid (mixR P 0 = r0)) (h1 : Hid (mixR P 1 = r1)) (h2 : Hid (mixR P 2 = r2)) (h3 : Hid (mixR P 3 = r3)) (h4 : Hid (mixR P 4 = r4)) (h5 : Hid (mixR P 5 = r5)) (hE : Hid (mixE P = E)) :
    Calls Tryd.prog 55 #[.slice (some ⟨b, 0, none⟩) P.length cap] w fun e w' => e = .returned (.tuple #[.agg #[.int .i64 r0, .int .i64 r1, .int .i64 r2, .int .i64 r3, .int .i64 r4, .int .i64 r5], .int .i64 E]) ∧ Below w.heap.size w w' := by
  have := Mixed_any P b 0 cap w hl hlt hP
  rw [h0.out, h1.out, h2.out, h3.out, h4.out, h5.out, hE.out] at this
  exact this
theorem refMixed_is (P : List Part) (A : Option Addr) (cap : Nat) (r0 r1 r2 r3 r4 r5 E : Int) (w : World) (hS : PSl w A P) (hc : checkPartsE P = 0) (h0 : Hid (mixR P 0 = r0)) (h1 : Hid (mixR P 1 = r1)) (h2 : Hid (mixR P 2 = r2)) (h3 : Hid (mixR P 3 = r3)) (h4 : Hid (mixR P 4 = r4)) (h5 : Hid (mixR P 5 = r5)) (hE : Hid (mixE P = E)) :
    Calls Tryd.prog 60 #[.slice A P.length cap] w fun e w' => e = .returned (.tuple #[.agg #[.int .i64 r0, .int .i64 r1, .int .i64 r2, .int .i64 r3, .int .i64 r4, .int .i64 r5], .int .i64 E]) ∧ Below w.heap.size w w' := by
  rcases hS with rfl | ⟨b, off, rfl, hlt, hP⟩
  · exact absurd hc (by decide)
  · have := refMixed_any P b off cap w hlt hP hc
    rw [h0.out, h1.out, h2.out, h3.out, h4.out, h5.out, hE.out] at this
    exact this
theorem Nearest_is (P : List Part) (b cap : Nat) (g0 g1 c : Int) (w : World) (hl : P.length ≤ 1000) (hlt : b < w.heap.size) (hP : PartsAt w b 0 P) (h0 : Hid (nearR P 0 = g0)) (h1 : Hid (nearR P 1 = g1)) (hc : Hid (checkPartsE P = c)) :
    Calls Tryd.prog 57 #[.slice (some ⟨b, 0, none⟩) P.length cap] w fun e w' => e = .returned (.tuple #[.agg #[.int .i64 g0, .int .i64 g1], .int .i64 c]) ∧ Below w.heap.size w w' := by
  have := Nearest_any P b 0 cap w hl hlt hP
  rw [h0.out, h1.out, hc.out] at this
  exact this
theorem refNearest_is (P : List Part) (A : Option Addr) (cap : Nat) (g0 g1 : Int) (w : World) (hS : PSl w A P) (hc : checkPartsE P = 0) (h0 : Hid (nearO P = g0)) (h1 : Hid (nearH P = g1)) :
    Calls Tryd.prog 61 #[.slice A P.length cap] w fun e w' => e = .returned (.agg #[.int .i64 g0, .int .i64 g1]) ∧ Below w.heap.size w w' := by
  rcases hS with rfl | ⟨b, off, rfl, hlt, hP⟩
  · exact absurd hc (by decide)
  · obtain ⟨hl, hR, hn⟩ := checkPartsE_z hc
    have := refNearest_any P b off cap w hl hlt hP hR hn
    rw [h0.out, h1.out] at this
    exact this
theorem refCheckParts_is (P : List Part) (A : Option Addr) (cap : Nat) (c : Int) (w : World) (hl : P.length ≤ 1000) (hS : PSl w A P) (hc : Hid (checkPartsE P = c)) :
    Calls Tryd.prog 58 #[.slice A P.length cap] w fun e w' => e = .returned (.int .i64 c) ∧ Below w.heap.size w w' := by
  have := refCheckParts_any P A cap w hl hS
  rw [hc.out] at this
  exact this
theorem CheckParts_is (P : List Part) (b cap : Nat) (c : Int) (w : World) (hl : P.length ≤ 1000) (hlt : b < w.heap.size) (hP : PartsAt w b 0 P) (hc : Hid (checkPartsE P = c)) :
    Calls Tryd.prog 59 #[.slice (some ⟨b, 0, none⟩) P.length cap] w fun e w' => e = .returned (.int .i64 c) ∧ Below w.heap.size w w' := by
  have := CheckParts_any P b 0 cap w hl hlt hP
  rw [hc.out] at this
  exact this
theorem CheckGas_m (o h c : Int) (w : World) (hc : Hid (gasE o h = c)) :
    Calls Tryd.prog 21 #[.agg #[.int .i64 o, .int .i64 h]] w fun e w' => e = .returned (.int .i64 c) ∧ w.alloc (.cells #[.int .i64 o, .int .i64 h] 23) = w' := by
  have := CheckGas_any o h w
  rw [hc.out] at this
  exact this
theorem gasE_ok {o h : Int} (h1 : 0 ≤ o) (h2 : o ≤ 1000) (h3 : 0 ≤ h) (h4 : h ≤ 1000) (h5 : o + h ≤ 1000) : gasE o h = 0 := by
  unfold gasE
  rw [inB_true h1 h2, inB_true h3 h4, if_pos ⟨rfl, rfl⟩, if_pos h5]
theorem near_ok {P : List Part} (hc : checkPartsE P = 0) : gasE (nearO P) (nearH P) = 0 := by
  obtain ⟨hl, hR, hn⟩ := checkPartsE_z hc
  have A0 := sumA_pos hR hn
  have A1 := (sumA_bd hl hR).2
  have X0 : 0 ≤ sumF pO P := (prt_bd hl hR 0).1
  have Y0 : 0 ≤ sumF pH P := (prt_bd hl hR 1).1
  have X1 : sumF pO P ≤ 1000 * sumF pA P := prt_le hl hR 0
  have x0 := (rndQ_bd X0 (prt_bd hl hR 0).2 A0 A1).1
  have y0 := (rndQ_bd Y0 (prt_bd hl hR 1).2 A0 A1).1
  have x1 : rndQ (sumF pO P) (sumF pA P) ≤ 1000 := by
    unfold rndQ
    refine Int.le_of_lt_add_one ((Int.ediv_lt_iff_lt_mul (by omega)).2 ?_)
    omega
  have hO : nearO P = rndQ (sumF pO P) (sumF pA P) := rfl
  have h1 : 0 ≤ nearH P ∧ nearO P + nearH P ≤ 1000 := by
    unfold nearH
    rw [hO]
    split <;> omega
  exact gasE_ok (by omega) (by omega) h1.1 (by omega) h1.2
set_option maxRecDepth 100000 in
set_option maxHeartbeats 4000000 in
theorem mlaw_big (P : List Part) (A : Option Addr) (cap : Nat) (w : World) (m : Int) (hm : w.cell? ⟨1, 0, none⟩ = some (.int .i64 m)) (hl : P.length ≤ 9223372036854775807) (hx : Hid (decide (P.length ≤ 15) = false)) :
    Calls Tryd.prog 14 #[.slice A P.length cap] w fun e w' => e = .returned (.bool true) ∧ Below w.heap.size w w' := by
  have hlm := World.block_lt_of_cell? _ _ hm
  have hne : w.heap.size ≠ 1 := by simp at hlm; omega
  have hl2 : 1 < w.heap.size := by simpa using hlm
  clear hlm
  go_enter Tryd.func14, Tryd.ntmps14
  go_wp2_with fail
  refine (awake_any _ m (by exact oldCellM (by (repeat (first | (with_reducible refine Below.drew ?_) | (with_reducible refine below_drewN ?_ _) | (with_reducible refine Below.alloc ?_ (by first | omega | (simp; done) | (simp; omega) | (simp at *; omega)) _) | (with_reducible refine Below.setCell ?_ (by first | omega | (simp; done) | (simp; omega) | (simp at *; omega)) _) | (with_reducible exact Below.refl _ _) | (with_reducible assumption) | (with_reducible refine Below.trans ?_ (Below.mono (by assumption) (by first | omega | (simp; done) | (simp; omega) | (simp at *; omega))))))) hm)).mono ?_
  rintro e w1 ⟨rfl, hbw1⟩
  have z1 := hbw1.size
  try simp at z1
  have hB1 : Below w.heap.size w w1 := (by (repeat (first | (with_reducible refine Below.drew ?_) | (with_reducible refine below_drewN ?_ _) | (with_reducible refine Below.alloc ?_ (by first | omega | (simp; done) | (simp; omega) | (simp at *; omega)) _) | (with_reducible refine Below.setCell ?_ (by first | omega | (simp; done) | (simp; omega) | (simp at *; omega)) _) | (with_reducible exact Below.refl _ _) | (with_reducible assumption) | (with_reducible refine Below.trans ?_ (Below.mono (by assumption) (by first | omega | (simp; done) | (simp; omega) | (simp at *; omega)))))))
  have b1 : w.heap.size ≤ w1.heap.size := by omega
  clear hbw1
  go_wp2_with ((go_at_call 54; ((with_reducible refine (short_any A P.length cap _ false hx hl).mono ?_)); rintro e w' ⟨rfl, rfl⟩))
  go_ret
  exact ⟨rfl, (by (repeat (first | (with_reducible refine Below.drew ?_) | (with_reducible refine below_drewN ?_ _) | (with_reducible refine Below.alloc ?_ (by first | omega | (simp; done) | (simp; omega) | (simp at *; omega)) _) | (with_reducible refine Below.setCell ?_ (by first | omega | (simp; done) | (simp; omega) | (simp at *; omega)) _) | (with_reducible exact Below.refl _ _) | (with_reducible assumption) | (with_reducible refine Below.trans ?_ (Below.mono (by assumption) (by first | omega | (simp; done) | (simp; omega) | (simp at *; omega)))))))⟩
set_option maxRecDepth 100000 in
set_option maxHeartbeats 4000000 in
theorem mlaw_err (P : List Part) (A : Option Addr) (cap : Nat) (w : World) (m : Int) (hm : w.cell? ⟨1, 0, none⟩ = some (.int .i64 m)) (hl : P.length ≤ 9223372036854775807) (hx : Hid (decide (P.length ≤ 15) = true)) (hl1 : P.length ≤ 1000000) (hl3 : P.length ≤ 1000) (hA : A = none → cap = 0) (HS : Hid (PSl w A P)) (c : Int) (hc : Hid (checkPartsE P = c)) (hE : Hid (mixE P = c)) (q0 : Hid (mixR P 0 = 0)) (q1 : Hid (mixR P 1 = 0)) (q2 : Hid (mixR P 2 = 0)) (q3 : Hid (mixR P 3 = 0)) (q4 : Hid (mixR P 4 = 0)) (q5 : Hid (mixR P 5 = 0)) (n0 : Hid (nearR P 0 = 0)) (n1 : Hid (nearR P 1 = 0)) (hc1 : (c != 0) = true) (hc2 : (c == 0) = false) :
    Calls Tryd.prog 14 #[.slice A P.length cap] w fun e w' => e = .returned (.bool true) ∧ Below w.heap.size w w' := by
  have hlm := World.block_lt_of_cell? _ _ hm
  have hne : w.heap.size ≠ 1 := by simp at hlm; omega
  have hl2 : 1 < w.heap.size := by simpa using hlm
  clear hlm
  have HA := Lib.hid hA
  clear hA
  go_enter Tryd.func14, Tryd.ntmps14
  go_wp2_with fail
  refine (awake_any _ m (by exact oldCellM (by (repeat (first | (with_reducible refine Below.drew ?_) | (with_reducible refine below_drewN ?_ _) | (with_reducible refine Below.alloc ?_ (by first | omega | (simp; done) | (simp; omega) | (simp at *; omega)) _) | (with_reducible refine Below.setCell ?_ (by first | omega | (simp; done) | (simp; omega) | (simp at *; omega)) _) | (with_reducible exact Below.refl _ _) | (with_reducible assumption) | (with_reducible refine Below.trans ?_ (Below.mono (by assumption) (by first | omega | (simp; done) | (simp; omega) | (simp at *; omega))))))) hm)).mono ?_
  rintro e w1 ⟨rfl, hbw1⟩
  have z1 := hbw1.size
  try simp at z1
  have hB1 : Below w.heap.size w w1 := (by (repeat (first | (with_reducible refine Below.drew ?_) | (with_reducible refine below_drewN ?_ _) | (with_reducible refine Below.alloc ?_ (by first | omega | (simp; done) | (simp; omega) | (simp at *; omega)) _) | (with_reducible refine Below.setCell ?_ (by first | omega | (simp; done) | (simp; omega) | (simp at *; omega)) _) | (with_reducible exact Below.refl _ _) | (with_reducible assumption) | (with_reducible refine Below.trans ?_ (Below.mono (by assumption) (by first | omega | (simp; done) | (simp; omega) | (simp at *; omega)))))))
  have b1 : w.heap.size ≤ w1.heap.size := by omega
  clear hbw1
  go_wp2_with ((go_at_call 54; ((with_reducible refine (short_any A P.length cap _ true hx hl).mono ?_)); rintro e w' ⟨rfl, rfl⟩))
  go_wp2_with fail
  refine (parts_any P A cap _ hl1 HA.out (by exact HS.out.below (by (repeat (first | (with_reducible refine Below.drew ?_) | (with_reducible refine below_drewN ?_ _) | (with_reducible refine Below.alloc ?_ (by first | omega | (simp; done) | (simp; omega) | (simp at *; omega)) _) | (with_reducible refine Below.setCell ?_ (by first | omega | (simp; done) | (simp; omega) | (simp at *; omega)) _) | (with_reducible exact Below.refl _ _) | (with_reducible assumption) | (with_reducible refine Below.trans ?_ (Below.mono (by assumption) (by first | omega | (simp; done) | (simp; omega) | (simp at *; omega))))))))).mono ?_
  rintro e w2 ⟨b2, cap2, rfl, lt2, hP2, ge2, hbw2⟩
  have HP2 := Lib.hid hP2
  clear hP2
  have z2 := hbw2.size
  try simp at z2
  have hB2 : Below w.heap.size w w2 := (by (repeat (first | (with_reducible refine Below.drew ?_) | (with_reducible refine below_drewN ?_ _) | (with_reducible refine Below.alloc ?_ (by first | omega | (simp; done) | (simp; omega) | (simp at *; omega)) _) | (with_reducible refine Below.setCell ?_ (by first | omega | (simp; done) | (simp; omega) | (simp at *; omega)) _) | (with_reducible exact Below.refl _ _) | (with_reducible assumption) | (with_reducible refine Below.trans ?_ (Below.mono (by assumption) (by first | omega | (simp; done) | (simp; omega) | (simp at *; omega)))))))
  have b2 : w.heap.size ≤ w2.heap.size := by omega
  clear hbw2
  go_wp2_with fail
  refine (Mixed_is P _ _ 0 0 0 0 0 0 c _ hl3 lt2 HP2.out q0 q1 q2 q3 q4 q5 hE).mono ?_
  rintro e w3 ⟨rfl, hbw3⟩
  have z3 := hbw3.size
  try simp at z3
  have hB3 : Below w.heap.size w w3 := (by (repeat (first | (with_reducible refine Below.drew ?_) | (with_reducible refine below_drewN ?_ _) | (with_reducible refine Below.alloc ?_ (by first | omega | (simp; done) | (simp; omega) | (simp at *; omega)) _) | (with_reducible refine Below.setCell ?_ (by first | omega | (simp; done) | (simp; omega) | (simp at *; omega)) _) | (with_reducible exact Below.refl _ _) | (with_reducible assumption) | (with_reducible refine Below.trans ?_ (Below.mono (by assumption) (by first | omega | (simp; done) | (simp; omega) | (simp at *; omega)))))))
  have b3 : w.heap.size ≤ w3.heap.size := by omega
  clear hbw3
  go_wp2_with fail
  refine (parts_any P A cap _ hl1 HA.out (by exact HS.out.below (by (repeat (first | (with_reducible refine Below.drew ?_) | (with_reducible refine below_drewN ?_ _) | (with_reducible refine Below.alloc ?_ (by first | omega | (simp; done) | (simp; omega) | (simp at *; omega)) _) | (with_reducible refine Below.setCell ?_ (by first | omega | (simp; done) | (simp; omega) | (simp at *; omega)) _) | (with_reducible exact Below.refl _ _) | (with_reducible assumption) | (with_reducible refine Below.trans ?_ (Below.mono (by assumption) (by first | omega | (simp; done) | (simp; omega) | (simp at *; omega))))))))).mono ?_
  rintro e w4 ⟨b4, cap4, rfl, lt4, hP4, ge4, hbw4⟩
  have HP4 := Lib.hid hP4
  clear hP4
  have z4 := hbw4.size
  try simp at z4
  have c4_0 : w4.cell? ⟨w3.heap.size, 0, none⟩ = some (.int .i64 0) := by rw [(bcell hbw4).1 _ _ (by first | (simp; done) | (simp; omega) | omega)]; simp [go_sem, World.cell?_alloc_past, *]
  have c4_1 : w4.cell? ⟨w3.heap.size, 1, none⟩ = some (.int .i64 0) := by rw [(bcell hbw4).1 _ _ (by first | (simp; done) | (simp; omega) | omega)]; simp [go_sem, World.cell?_alloc_past, *]
  have c4_2 : w4.cell? ⟨w3.heap.size, 2, none⟩ = some (.int .i64 0) := by rw [(bcell hbw4).1 _ _ (by first | (simp; done) | (simp; omega) | omega)]; simp [go_sem, World.cell?_alloc_past, *]
  have c4_3 : w4.cell? ⟨w3.heap.size, 3, none⟩ = some (.int .i64 0) := by rw [(bcell hbw4).1 _ _ (by first | (simp; done) | (simp; omega) | omega)]; simp [go_sem, World.cell?_alloc_past, *]
  have c4_4 : w4.cell? ⟨w3.heap.size, 4, none⟩ = some (.int .i64 0) := by rw [(bcell hbw4).1 _ _ (by first | (simp; done) | (simp; omega) | omega)]; simp [go_sem, World.cell?_alloc_past, *]
  have c4_5 : w4.cell? ⟨w3.heap.size, 5, none⟩ = some (.int .i64 0) := by rw [(bcell hbw4).1 _ _ (by first | (simp; done) | (simp; omega) | omega)]; simp [go_sem, World.cell?_alloc_past, *]
  have hB4 : Below w.heap.size w w4 := (by (repeat (first | (with_reducible refine Below.drew ?_) | (with_reducible refine below_drewN ?_ _) | (with_reducible refine Below.alloc ?_ (by first | omega | (simp; done) | (simp; omega) | (simp at *; omega)) _) | (with_reducible refine Below.setCell ?_ (by first | omega | (simp; done) | (simp; omega) | (simp at *; omega)) _) | (with_reducible exact Below.refl _ _) | (with_reducible assumption) | (with_reducible refine Below.trans ?_ (Below.mono (by assumption) (by first | omega | (simp; done) | (simp; omega) | (simp at *; omega)))))))
  have o4_0 : w3.heap.size < w4.heap.size := by omega
  have n4_0 : w4.heap.size ≠ w3.heap.size := by omega
  have t4_0_1 : w3.heap.size < w4.heap.size + 1 := by omega
  have t4_0_2 : w3.heap.size < w4.heap.size + 1 + 1 := by omega
  have t4_0_3 : w3.heap.size < w4.heap.size + 1 + 1 + 1 := by omega
  have b4 : w.heap.size ≤ w4.heap.size := by omega
  clear hbw4
  go_wp2_with fail
  refine (Nearest_is P _ _ 0 0 c _ hl3 lt4 HP4.out n0 n1 hc).mono ?_
  rintro e w5 ⟨rfl, hbw5⟩
  have z5 := hbw5.size
  try simp at z5
  have c5_0 : w5.cell? ⟨w3.heap.size, 0, none⟩ = some (.int .i64 0) := by rw [(bcell hbw5).1 _ _ (by first | (simp; done) | (simp; omega) | omega)]; simp [go_sem, World.cell?_alloc_past, *]
  have c5_1 : w5.cell? ⟨w3.heap.size, 1, none⟩ = some (.int .i64 0) := by rw [(bcell hbw5).1 _ _ (by first | (simp; done) | (simp; omega) | omega)]; simp [go_sem, World.cell?_alloc_past, *]
  have c5_2 : w5.cell? ⟨w3.heap.size, 2, none⟩ = some (.int .i64 0) := by rw [(bcell hbw5).1 _ _ (by first | (simp; done) | (simp; omega) | omega)]; simp [go_sem, World.cell?_alloc_past, *]
  have c5_3 : w5.cell? ⟨w3.heap.size, 3, none⟩ = some (.int .i64 0) := by rw [(bcell hbw5).1 _ _ (by first | (simp; done) | (simp; omega) | omega)]; simp [go_sem, World.cell?_alloc_past, *]
  have c5_4 : w5.cell? ⟨w3.heap.size, 4, none⟩ = some (.int .i64 0) := by rw [(bcell hbw5).1 _ _ (by first | (simp; done) | (simp; omega) | omega)]; simp [go_sem, World.cell?_alloc_past, *]
  have c5_5 : w5.cell? ⟨w3.heap.size, 5, none⟩ = some (.int .i64 0) := by rw [(bcell hbw5).1 _ _ (by first | (simp; done) | (simp; omega) | omega)]; simp [go_sem, World.cell?_alloc_past, *]
  have hB5 : Below w.heap.size w w5 := (by (repeat (first | (with_reducible refine Below.drew ?_) | (with_reducible refine below_drewN ?_ _) | (with_reducible refine Below.alloc ?_ (by first | omega | (simp; done) | (simp; omega) | (simp at *; omega)) _) | (with_reducible refine Below.setCell ?_ (by first | omega | (simp; done) | (simp; omega) | (simp at *; omega)) _) | (with_reducible exact Below.refl _ _) | (with_reducible assumption) | (with_reducible refine Below.trans ?_ (Below.mono (by assumption) (by first | omega | (simp; done) | (simp; omega) | (simp at *; omega)))))))
  clear c4_0 c4_1 c4_2 c4_3 c4_4 c4_5 o4_0 n4_0 t4_0_1 t4_0_2 t4_0_3
  have o5_0 : w3.heap.size < w5.heap.size := by omega
  have n5_0 : w5.heap.size ≠ w3.heap.size := by omega
  have t5_0_1 : w3.heap.size < w5.heap.size + 1 := by omega
  have t5_0_2 : w3.heap.size < w5.heap.size + 1 + 1 := by omega
  have t5_0_3 : w3.heap.size < w5.heap.size + 1 + 1 + 1 := by omega
  have b5 : w.heap.size ≤ w5.heap.size := by omega
  clear hbw5
  go_wp2_with fail
  refine (refCheckParts_is P A cap c _ hl3 (by exact HS.out.below (by (repeat (first | (with_reducible refine Below.drew ?_) | (with_reducible refine below_drewN ?_ _) | (with_reducible refine Below.alloc ?_ (by first | omega | (simp; done) | (simp; omega) | (simp at *; omega)) _) | (with_reducible refine Below.setCell ?_ (by first | omega | (simp; done) | (simp; omega) | (simp at *; omega)) _) | (with_reducible exact Below.refl _ _) | (with_reducible assumption) | (with_reducible refine Below.trans ?_ (Below.mono (by assumption) (by first | omega | (simp; done) | (simp; omega) | (simp at *; omega)))))))) hc).mono ?_
  rintro e w6 ⟨rfl, hbw6⟩
  have z6 := hbw6.size
  try simp at z6
  have c6_0 : w6.cell? ⟨w3.heap.size, 0, none⟩ = some (.int .i64 0) := by rw [(bcell hbw6).1 _ _ (by first | (simp; done) | (simp; omega) | omega)]; simp [go_sem, World.cell?_alloc_past, *]
  have c6_1 : w6.cell? ⟨w3.heap.size, 1, none⟩ = some (.int .i64 0) := by rw [(bcell hbw6).1 _ _ (by first | (simp; done) | (simp; omega) | omega)]; simp [go_sem, World.cell?_alloc_past, *]
  have c6_2 : w6.cell? ⟨w3.heap.size, 2, none⟩ = some (.int .i64 0) := by rw [(bcell hbw6).1 _ _ (by first | (simp; done) | (simp; omega) | omega)]; simp [go_sem, World.cell?_alloc_past, *]
  have c6_3 : w6.cell? ⟨w3.heap.size, 3, none⟩ = some (.int .i64 0) := by rw [(bcell hbw6).1 _ _ (by first | (simp; done) | (simp; omega) | omega)]; simp [go_sem, World.cell?_alloc_past, *]
  have c6_4 : w6.cell? ⟨w3.heap.size, 4, none⟩ = some (.int .i64 0) := by rw [(bcell hbw6).1 _ _ (by first | (simp; done) | (simp; omega) | omega)]; simp [go_sem, World.cell?_alloc_past, *]
  have c6_5 : w6.cell? ⟨w3.heap.size, 5, none⟩ = some (.int .i64 0) := by rw [(bcell hbw6).1 _ _ (by first | (simp; done) | (simp; omega) | omega)]; simp [go_sem, World.cell?_alloc_past, *]
  have c6_6 : w6.cell? ⟨w5.heap.size, 0, none⟩ = some (.int .i64 0) := by rw [(bcell hbw6).1 _ _ (by first | (simp; done) | (simp; omega) | omega)]; simp [go_sem, World.cell?_alloc_past, *]
  have c6_7 : w6.cell? ⟨w5.heap.size, 1, none⟩ = some (.int .i64 0) := by rw [(bcell hbw6).1 _ _ (by first | (simp; done) | (simp; omega) | omega)]; simp [go_sem, World.cell?_alloc_past, *]
  have hB6 : Below w.heap.size w w6 := (by (repeat (first | (with_reducible refine Below.drew ?_) | (with_reducible refine below_drewN ?_ _) | (with_reducible refine Below.alloc ?_ (by first | omega | (simp; done) | (simp; omega) | (simp at *; omega)) _) | (with_reducible refine Below.setCell ?_ (by first | omega | (simp; done) | (simp; omega) | (simp at *; omega)) _) | (with_reducible exact Below.refl _ _) | (with_reducible assumption) | (with_reducible refine Below.trans ?_ (Below.mono (by assumption) (by first | omega | (simp; done) | (simp; omega) | (simp at *; omega)))))))
  clear c5_0 c5_1 c5_2 c5_3 c5_4 c5_5 o5_0 n5_0 t5_0_1 t5_0_2 t5_0_3
  have o6_0 : w3.heap.size < w6.heap.size := by omega
  have n6_0 : w6.heap.size ≠ w3.heap.size := by omega
  have t6_0_1 : w3.heap.size < w6.heap.size + 1 := by omega
  have t6_0_2 : w3.heap.size < w6.heap.size + 1 + 1 := by omega
  have t6_0_3 : w3.heap.size < w6.heap.size + 1 + 1 + 1 := by omega
  have o6_1 : w5.heap.size < w6.heap.size := by omega
  have n6_1 : w6.heap.size ≠ w5.heap.size := by omega
  have t6_1_1 : w5.heap.size < w6.heap.size + 1 := by omega
  have t6_1_2 : w5.heap.size < w6.heap.size + 1 + 1 := by omega
  have t6_1_3 : w5.heap.size < w6.heap.size + 1 + 1 + 1 := by omega
  have b6 : w.heap.size ≤ w6.heap.size := by omega
  clear hbw6
  go_wp2_with fail
  refine (parts_any P A cap _ hl1 HA.out (by exact HS.out.below (by (repeat (first | (with_reducible refine Below.drew ?_) | (with_reducible refine below_drewN ?_ _) | (with_reducible refine Below.alloc ?_ (by first | omega | (simp; done) | (simp; omega) | (simp at *; omega)) _) | (with_reducible refine Below.setCell ?_ (by first | omega | (simp; done) | (simp; omega) | (simp at *; omega)) _) | (with_reducible exact Below.refl _ _) | (with_reducible assumption) | (with_reducible refine Below.trans ?_ (Below.mono (by assumption) (by first | omega | (simp; done) | (simp; omega) | (simp at *; omega))))))))).mono ?_
  rintro e w7 ⟨b7, cap7, rfl, lt7, hP7, ge7, hbw7⟩
  have HP7 := Lib.hid hP7
  clear hP7
  have z7 := hbw7.size
  try simp at z7
  have c7_0 : w7.cell? ⟨w3.heap.size, 0, none⟩ = some (.int .i64 0) := by rw [(bcell hbw7).1 _ _ (by first | (simp; done) | (simp; omega) | omega)]; simp [go_sem, World.cell?_alloc_past, *]
  have c7_1 : w7.cell? ⟨w3.heap.size, 1, none⟩ = some (.int .i64 0) := by rw [(bcell hbw7).1 _ _ (by first | (simp; done) | (simp; omega) | omega)]; simp [go_sem, World.cell?_alloc_past, *]
  have c7_2 : w7.cell? ⟨w3.heap.size, 2, none⟩ = some (.int .i64 0) := by rw [(bcell hbw7).1 _ _ (by first | (simp; done) | (simp; omega) | omega)]; simp [go_sem, World.cell?_alloc_past, *]
  have c7_3 : w7.cell? ⟨w3.heap.size, 3, none⟩ = some (.int .i64 0) := by rw [(bcell hbw7).1 _ _ (by first | (simp; done) | (simp; omega) | omega)]; simp [go_sem, World.cell?_alloc_past, *]
  have c7_4 : w7.cell? ⟨w3.heap.size, 4, none⟩ = some (.int .i64 0) := by rw [(bcell hbw7).1 _ _ (by first | (simp; done) | (simp; omega) | omega)]; simp [go_sem, World.cell?_alloc_past, *]
  have c7_5 : w7.cell? ⟨w3.heap.size, 5, none⟩ = some (.int .i64 0) := by rw [(bcell hbw7).1 _ _ (by first | (simp; done) | (simp; omega) | omega)]; simp [go_sem, World.cell?_alloc_past, *]
  have c7_6 : w7.cell? ⟨w5.heap.size, 0, none⟩ = some (.int .i64 0) := by rw [(bcell hbw7).1 _ _ (by first | (simp; done) | (simp; omega) | omega)]; simp [go_sem, World.cell?_alloc_past, *]
  have c7_7 : w7.cell? ⟨w5.heap.size, 1, none⟩ = some (.int .i64 0) := by rw [(bcell hbw7).1 _ _ (by first | (simp; done) | (simp; omega) | omega)]; simp [go_sem, World.cell?_alloc_past, *]
  have hB7 : Below w.heap.size w w7 := (by (repeat (first | (with_reducible refine Below.drew ?_) | (with_reducible refine below_drewN ?_ _) | (with_reducible refine Below.alloc ?_ (by first | omega | (simp; done) | (simp; omega) | (simp at *; omega)) _) | (with_reducible refine Below.setCell ?_ (by first | omega | (simp; done) | (simp; omega) | (simp at *; omega)) _) | (with_reducible exact Below.refl _ _) | (with_reducible assumption) | (with_reducible refine Below.trans ?_ (Below.mono (by assumption) (by first | omega | (simp; done) | (simp; omega) | (simp at *; omega)))))))
  clear c6_0 c6_1 c6_2 c6_3 c6_4 c6_5 c6_6 c6_7 o6_0 n6_0 t6_0_1 t6_0_2 t6_0_3 o6_1 n6_1 t6_1_1 t6_1_2 t6_1_3
  have o7_0 : w3.heap.size < w7.heap.size := by omega
  have n7_0 : w7.heap.size ≠ w3.heap.size := by omega
  have t7_0_1 : w3.heap.size < w7.heap.size + 1 := by omega
  have t7_0_2 : w3.heap.size < w7.heap.size + 1 + 1 := by omega
  have t7_0_3 : w3.heap.size < w7.heap.size + 1 + 1 + 1 := by omega
  have o7_1 : w5.heap.size < w7.heap.size := by omega
  have n7_1 : w7.heap.size ≠ w5.heap.size := by omega
  have t7_1_1 : w5.heap.size < w7.heap.size + 1 := by omega
  have t7_1_2 : w5.heap.size < w7.heap.size + 1 + 1 := by omega
  have t7_1_3 : w5.heap.size < w7.heap.size + 1 + 1 + 1 := by omega
  have b7 : w.heap.size ≤ w7.heap.size := by omega
  clear hbw7
  go_wp2_with fail
  refine (CheckParts_is P _ _ c _ hl3 lt7 HP7.out hc).mono ?_
  rintro e w8 ⟨rfl, hbw8⟩
  have z8 := hbw8.size
  try simp at z8
  have c8_0 : w8.cell? ⟨w3.heap.size, 0, none⟩ = some (.int .i64 0) := by rw [(bcell hbw8).1 _ _ (by first | (simp; done) | (simp; omega) | omega)]; simp [go_sem, World.cell?_alloc_past, *]
  have c8_1 : w8.cell? ⟨w3.heap.size, 1, none⟩ = some (.int .i64 0) := by rw [(bcell hbw8).1 _ _ (by first | (simp; done) | (simp; omega) | omega)]; simp [go_sem, World.cell?_alloc_past, *]
  have c8_2 : w8.cell? ⟨w3.heap.size, 2, none⟩ = some (.int .i64 0) := by rw [(bcell hbw8).1 _ _ (by first | (simp; done) | (simp; omega) | omega)]; simp [go_sem, World.cell?_alloc_past, *]
  have c8_3 : w8.cell? ⟨w3.heap.size, 3, none⟩ = some (.int .i64 0) := by rw [(bcell hbw8).1 _ _ (by first | (simp; done) | (simp; omega) | omega)]; simp [go_sem, World.cell?_alloc_past, *]
  have c8_4 : w8.cell? ⟨w3.heap.size, 4, none⟩ = some (.int .i64 0) := by rw [(bcell hbw8).1 _ _ (by first | (simp; done) | (simp; omega) | omega)]; simp [go_sem, World.cell?_alloc_past, *]
  have c8_5 : w8.cell? ⟨w3.heap.size, 5, none⟩ = some (.int .i64 0) := by rw [(bcell hbw8).1 _ _ (by first | (simp; done) | (simp; omega) | omega)]; simp [go_sem, World.cell?_alloc_past, *]
  have c8_6 : w8.cell? ⟨w5.heap.size, 0, none⟩ = some (.int .i64 0) := by rw [(bcell hbw8).1 _ _ (by first | (simp; done) | (simp; omega) | omega)]; simp [go_sem, World.cell?_alloc_past, *]
  have c8_7 : w8.cell? ⟨w5.heap.size, 1, none⟩ = some (.int .i64 0) := by rw [(bcell hbw8).1 _ _ (by first | (simp; done) | (simp; omega) | omega)]; simp [go_sem, World.cell?_alloc_past, *]
  have hB8 : Below w.heap.size w w8 := (by (repeat (first | (with_reducible refine Below.drew ?_) | (with_reducible refine below_drewN ?_ _) | (with_reducible refine Below.alloc ?_ (by first | omega | (simp; done) | (simp; omega) | (simp at *; omega)) _) | (with_reducible refine Below.setCell ?_ (by first | omega | (simp; done) | (simp; omega) | (simp at *; omega)) _) | (with_reducible exact Below.refl _ _) | (with_reducible assumption) | (with_reducible refine Below.trans ?_ (Below.mono (by assumption) (by first | omega | (simp; done) | (simp; omega) | (simp at *; omega)))))))
  clear c7_0 c7_1 c7_2 c7_3 c7_4 c7_5 c7_6 c7_7 o7_0 n7_0 t7_0_1 t7_0_2 t7_0_3 o7_1 n7_1 t7_1_1 t7_1_2 t7_1_3
  have o8_0 : w3.heap.size < w8.heap.size := by omega
  have n8_0 : w8.heap.size ≠ w3.heap.size := by omega
  have t8_0_1 : w3.heap.size < w8.heap.size + 1 := by omega
  have t8_0_2 : w3.heap.size < w8.heap.size + 1 + 1 := by omega
  have t8_0_3 : w3.heap.size < w8.heap.size + 1 + 1 + 1 := by omega
  have o8_1 : w5.heap.size < w8.heap.size := by omega
  have n8_1 : w8.heap.size ≠ w5.heap.size := by omega
  have t8_1_1 : w5.heap.size < w8.heap.size + 1 := by omega
  have t8_1_2 : w5.heap.size < w8.heap.size + 1 + 1 := by omega
  have t8_1_3 : w5.heap.size < w8.heap.size + 1 + 1 + 1 := by omega
  have b8 : w.heap.size ≤ w8.heap.size := by omega
  clear hbw8
  have hEq := eqArrF
  go_wp2
  go_ret
  exact ⟨by first | rfl | (simp; done) | (apply ret_bool; simp), (by (repeat (first | (with_reducible refine Below.drew ?_) | (with_reducible refine below_drewN ?_ _) | (with_reducible refine Below.alloc ?_ (by first | omega | (simp; done) | (simp; omega) | (simp at *; omega)) _) | (with_reducible refine Below.setCell ?_ (by first | omega | (simp; done) | (simp; omega) | (simp at *; omega)) _) | (with_reducible exact Below.refl _ _) | (with_reducible assumption) | (with_reducible refine Below.trans ?_ (Below.mono (by assumption) (by first | omega | (simp; done) | (simp; omega) | (simp at *; omega)))))))⟩
set_option maxRecDepth 100000 in
set_option maxHeartbeats 4000000 in
theorem mlaw_ok (P : List Part) (A : Option Addr) (cap : Nat) (w : World) (m : Int) (hm : w.cell? ⟨1, 0, none⟩ = some (.int .i64 m)) (hl : P.length ≤ 9223372036854775807) (hx : Hid (decide (P.length ≤ 15) = true)) (hl1 : P.length ≤ 1000000) (hl3 : P.length ≤ 1000) (hA : A = none → cap = 0) (HS : Hid (PSl w A P)) (r0 r1 r2 r3 r4 r5 E g0 g1 : Int) (hc : Hid (checkPartsE P = 0)) (hE : Hid (mixE P = E)) (q0 : Hid (mixR P 0 = r0)) (q1 : Hid (mixR P 1 = r1)) (q2 : Hid (mixR P 2 = r2)) (q3 : Hid (mixR P 3 = r3)) (q4 : Hid (mixR P 4 = r4)) (q5 : Hid (mixR P 5 = r5)) (n0 : Hid (nearR P 0 = g0)) (n1 : Hid (nearR P 1 = g1)) (m0 : Hid (nearO P = g0)) (m1 : Hid (nearH P = g1)) (hg : Hid (gasE g0 g1 = 0)) :
    Calls Tryd.prog 14 #[.slice A P.length cap] w fun e w' => e = .returned (.bool true) ∧ Below w.heap.size w w' := by
  have hlm := World.block_lt_of_cell? _ _ hm
  have hne : w.heap.size ≠ 1 := by simp at hlm; omega
  have hl2 : 1 < w.heap.size := by simpa using hlm
  clear hlm
  have HA := Lib.hid hA
  clear hA
  go_enter Tryd.func14, Tryd.ntmps14
  go_wp2_with fail
  refine (awake_any _ m (by exact oldCellM (by (repeat (first | (with_reducible refine Below.drew ?_) | (with_reducible refine below_drewN ?_ _) | (with_reducible refine Below.alloc ?_ (by first | omega | (simp; done) | (simp; omega) | (simp at *; omega)) _) | (with_reducible refine Below.setCell ?_ (by first | omega | (simp; done) | (simp; omega) | (simp at *; omega)) _) | (with_reducible exact Below.refl _ _) | (with_reducible assumption) | (with_reducible refine Below.trans ?_ (Below.mono (by assumption) (by first | omega | (simp; done) | (simp; omega) | (simp at *; omega))))))) hm)).mono ?_
  rintro e w1 ⟨rfl, hbw1⟩
  have z1 := hbw1.size
  try simp at z1
  have hB1 : Below w.heap.size w w1 := (by (repeat (first | (with_reducible refine Below.drew ?_) | (with_reducible refine below_drewN ?_ _) | (with_reducible refine Below.alloc ?_ (by first | omega | (simp; done) | (simp; omega) | (simp at *; omega)) _) | (with_reducible refine Below.setCell ?_ (by first | omega | (simp; done) | (simp; omega) | (simp at *; omega)) _) | (with_reducible exact Below.refl _ _) | (with_reducible assumption) | (with_reducible refine Below.trans ?_ (Below.mono (by assumption) (by first | omega | (simp; done) | (simp; omega) | (simp at *; omega)))))))
  have b1 : w.heap.size ≤ w1.heap.size := by omega
  clear hbw1
  go_wp2_with ((go_at_call 54; ((with_reducible refine (short_any A P.length cap _ true hx hl).mono ?_)); rintro e w' ⟨rfl, rfl⟩))
  go_wp2_with fail
  refine (parts_any P A cap _ hl1 HA.out (by exact HS.out.below (by (repeat (first | (with_reducible refine Below.drew ?_) | (with_reducible refine below_drewN ?_ _) | (with_reducible refine Below.alloc ?_ (by first | omega | (simp; done) | (simp; omega) | (simp at *; omega)) _) | (with_reducible refine Below.setCell ?_ (by first | omega | (simp; done) | (simp; omega) | (simp at *; omega)) _) | (with_reducible exact Below.refl _ _) | (with_reducible assumption) | (with_reducible refine Below.trans ?_ (Below.mono (by assumption) (by first | omega | (simp; done) | (simp; omega) | (simp at *; omega))))))))).mono ?_
  rintro e w2 ⟨b2, cap2, rfl, lt2, hP2, ge2, hbw2⟩
  have HP2 := Lib.hid hP2
  clear hP2
  have z2 := hbw2.size
  try simp at z2
  have hB2 : Below w.heap.size w w2 := (by (repeat (first | (with_reducible refine Below.drew ?_) | (with_reducible refine below_drewN ?_ _) | (with_reducible refine Below.alloc ?_ (by first | omega | (simp; done) | (simp; omega) | (simp at *; omega)) _) | (with_reducible refine Below.setCell ?_ (by first | omega | (simp; done) | (simp; omega) | (simp at *; omega)) _) | (with_reducible exact Below.refl _ _) | (with_reducible assumption) | (with_reducible refine Below.trans ?_ (Below.mono (by assumption) (by first | omega | (simp; done) | (simp; omega) | (simp at *; omega)))))))
  have b2 : w.heap.size ≤ w2.heap.size := by omega
  clear hbw2
  go_wp2_with fail
  refine (Mixed_is P _ _ r0 r1 r2 r3 r4 r5 E _ hl3 lt2 HP2.out q0 q1 q2 q3 q4 q5 hE).mono ?_
  rintro e w3 ⟨rfl, hbw3⟩
  have z3 := hbw3.size
  try simp at z3
  have hB3 : Below w.heap.size w w3 := (by (repeat (first | (with_reducible refine Below.drew ?_) | (with_reducible refine below_drewN ?_ _) | (with_reducible refine Below.alloc ?_ (by first | omega | (simp; done) | (simp; omega) | (simp at *; omega)) _) | (with_reducible refine Below.setCell ?_ (by first | omega | (simp; done) | (simp; omega) | (simp at *; omega)) _) | (with_reducible exact Below.refl _ _) | (with_reducible assumption) | (with_reducible refine Below.trans ?_ (Below.mono (by assumption) (by first | omega | (simp; done) | (simp; omega) | (simp at *; omega)))))))
  have b3 : w.heap.size ≤ w3.heap.size := by omega
  clear hbw3
  go_wp2_with fail
  refine (parts_any P A cap _ hl1 HA.out (by exact HS.out.below (by (repeat (first | (with_reducible refine Below.drew ?_) | (with_reducible refine below_drewN ?_ _) | (with_reducible refine Below.alloc ?_ (by first | omega | (simp; done) | (simp; omega) | (simp at *; omega)) _) | (with_reducible refine Below.setCell ?_ (by first | omega | (simp; done) | (simp; omega) | (simp at *; omega)) _) | (with_reducible exact Below.refl _ _) | (with_reducible assumption) | (with_reducible refine Below.trans ?_ (Below.mono (by assumption) (by first | omega | (simp; done) | (simp; omega) | (simp at *; omega))))))))).mono ?_
  rintro e w4 ⟨b4, cap4, rfl, lt4, hP4, ge4, hbw4⟩
  have HP4 := Lib.hid hP4
  clear hP4
  have z4 := hbw4.size
  try simp at z4
  have c4_0 : w4.cell? ⟨w3.heap.size, 0, none⟩ = some (.int .i64 r0) := by rw [(bcell hbw4).1 _ _ (by first | (simp; done) | (simp; omega) | omega)]; simp [go_sem, World.cell?_alloc_past, *]
  have c4_1 : w4.cell? ⟨w3.heap.size, 1, none⟩ = some (.int .i64 r1) := by rw [(bcell hbw4).1 _ _ (by first | (simp; done) | (simp; omega) | omega)]; simp [go_sem, World.cell?_alloc_past, *]
  have c4_2 : w4.cell? ⟨w3.heap.size, 2, none⟩ = some (.int .i64 r2) := by rw [(bcell hbw4).1 _ _ (by first | (simp; done) | (simp; omega) | omega)]; simp [go_sem, World.cell?_alloc_past, *]
  have c4_3 : w4.cell? ⟨w3.heap.size, 3, none⟩ = some (.int .i64 r3) := by rw [(bcell hbw4).1 _ _ (by first | (simp; done) | (simp; omega) | omega)]; simp [go_sem, World.cell?_alloc_past, *]
  have c4_4 : w4.cell? ⟨w3.heap.size, 4, none⟩ = some (.int .i64 r4) := by rw [(bcell hbw4).1 _ _ (by first | (simp; done) | (simp; omega) | omega)]; simp [go_sem, World.cell?_alloc_past, *]
  have c4_5 : w4.cell? ⟨w3.heap.size, 5, none⟩ = some (.int .i64 r5) := by rw [(bcell hbw4).1 _ _ (by first | (simp; done) | (simp; omega) | omega)]; simp [go_sem, World.cell?_alloc_past, *]
  have hB4 : Below w.heap.size w w4 := (by (repeat (first | (with_reducible refine Below.drew ?_) | (with_reducible refine below_drewN ?_ _) | (with_reducible refine Below.alloc ?_ (by first | omega | (simp; done) | (simp; omega) | (simp at *; omega)) _) | (with_reducible refine Below.setCell ?_ (by first | omega | (simp; done) | (simp; omega) | (simp at *; omega)) _) | (with_reducible exact Below.refl _ _) | (with_reducible assumption) | (with_reducible refine Below.trans ?_ (Below.mono (by assumption) (by first | omega | (simp; done) | (simp; omega) | (simp at *; omega)))))))
  have o4_0 : w3.heap.size < w4.heap.size := by omega
  have n4_0 : w4.heap.size ≠ w3.heap.size := by omega
  have t4_0_1 : w3.heap.size < w4.heap.size + 1 := by omega
  have t4_0_2 : w3.heap.size < w4.heap.size + 1 + 1 := by omega
  have t4_0_3 : w3.heap.size < w4.heap.size + 1 + 1 + 1 := by omega
  have b4 : w.heap.size ≤ w4.heap.size := by omega
  clear hbw4
  go_wp2_with fail
  refine (Nearest_is P _ _ g0 g1 0 _ hl3 lt4 HP4.out n0 n1 hc).mono ?_
  rintro e w5 ⟨rfl, hbw5⟩
  have z5 := hbw5.size
  try simp at z5
  have c5_0 : w5.cell? ⟨w3.heap.size, 0, none⟩ = some (.int .i64 r0) := by rw [(bcell hbw5).1 _ _ (by first | (simp; done) | (simp; omega) | omega)]; simp [go_sem, World.cell?_alloc_past, *]
  have c5_1 : w5.cell? ⟨w3.heap.size, 1, none⟩ = some (.int .i64 r1) := by rw [(bcell hbw5).1 _ _ (by first | (simp; done) | (simp; omega) | omega)]; simp [go_sem, World.cell?_alloc_past, *]
  have c5_2 : w5.cell? ⟨w3.heap.size, 2, none⟩ = some (.int .i64 r2) := by rw [(bcell hbw5).1 _ _ (by first | (simp; done) | (simp; omega) | omega)]; simp [go_sem, World.cell?_alloc_past, *]
  have c5_3 : w5.cell? ⟨w3.heap.size, 3, none⟩ = some (.int .i64 r3) := by rw [(bcell hbw5).1 _ _ (by first | (simp; done) | (simp; omega) | omega)]; simp [go_sem, World.cell?_alloc_past, *]
  have c5_4 : w5.cell? ⟨w3.heap.size, 4, none⟩ = some (.int .i64 r4) := by rw [(bcell hbw5).1 _ _ (by first | (simp; done) | (simp; omega) | omega)]; simp [go_sem, World.cell?_alloc_past, *]
  have c5_5 : w5.cell? ⟨w3.heap.size, 5, none⟩ = some (.int .i64 r5) := by rw [(bcell hbw5).1 _ _ (by first | (simp; done) | (simp; omega) | omega)]; simp [go_sem, World.cell?_alloc_past, *]
  have hB5 : Below w.heap.size w w5 := (by (repeat (first | (with_reducible refine Below.drew ?_) | (with_reducible refine below_drewN ?_ _) | (with_reducible refine Below.alloc ?_ (by first | omega | (simp; done) | (simp; omega) | (simp at *; omega)) _) | (with_reducible refine Below.setCell ?_ (by first | omega | (simp; done) | (simp; omega) | (simp at *; omega)) _) | (with_reducible exact Below.refl _ _) | (with_reducible assumption) | (with_reducible refine Below.trans ?_ (Below.mono (by assumption) (by first | omega | (simp; done) | (simp; omega) | (simp at *; omega)))))))
  clear c4_0 c4_1 c4_2 c4_3 c4_4 c4_5 o4_0 n4_0 t4_0_1 t4_0_2 t4_0_3
  have o5_0 : w3.heap.size < w5.heap.size := by omega
  have n5_0 : w5.heap.size ≠ w3.heap.size := by omega
  have t5_0_1 : w3.heap.size < w5.heap.size + 1 := by omega
  have t5_0_2 : w3.heap.size < w5.heap.size + 1 + 1 := by omega
  have t5_0_3 : w3.heap.size < w5.heap.size + 1 + 1 + 1 := by omega
  have b5 : w.heap.size ≤ w5.heap.size := by omega
  clear hbw5
  go_wp2_with fail
  refine (refCheckParts_is P A cap 0 _ hl3 (by exact HS.out.below (by (repeat (first | (with_reducible refine Below.drew ?_) | (with_reducible refine below_drewN ?_ _) | (with_reducible refine Below.alloc ?_ (by first | omega | (simp; done) | (simp; omega) | (simp at *; omega)) _) | (with_reducible refine Below.setCell ?_ (by first | omega | (simp; done) | (simp; omega) | (simp at *; omega)) _) | (with_reducible exact Below.refl _ _) | (with_reducible assumption) | (with_reducible refine Below.trans ?_ (Below.mono (by assumption) (by first | omega | (simp; done) | (simp; omega) | (simp at *; omega)))))))) hc).mono ?_
  rintro e w6 ⟨rfl, hbw6⟩
  have z6 := hbw6.size
  try simp at z6
  have c6_0 : w6.cell? ⟨w3.heap.size, 0, none⟩ = some (.int .i64 r0) := by rw [(bcell hbw6).1 _ _ (by first | (simp; done) | (simp; omega) | omega)]; simp [go_sem, World.cell?_alloc_past, *]
  have c6_1 : w6.cell? ⟨w3.heap.size, 1, none⟩ = some (.int .i64 r1) := by rw [(bcell hbw6).1 _ _ (by first | (simp; done) | (simp; omega) | omega)]; simp [go_sem, World.cell?_alloc_past, *]
  have c6_2 : w6.cell? ⟨w3.heap.size, 2, none⟩ = some (.int .i64 r2) := by rw [(bcell hbw6).1 _ _ (by first | (simp; done) | (simp; omega) | omega)]; simp [go_sem, World.cell?_alloc_past, *]
  have c6_3 : w6.cell? ⟨w3.heap.size, 3, none⟩ = some (.int .i64 r3) := by rw [(bcell hbw6).1 _ _ (by first | (simp; done) | (simp; omega) | omega)]; simp [go_sem, World.cell?_alloc_past, *]
  have c6_4 : w6.cell? ⟨w3.heap.size, 4, none⟩ = some (.int .i64 r4) := by rw [(bcell hbw6).1 _ _ (by first | (simp; done) | (simp; omega) | omega)]; simp [go_sem, World.cell?_alloc_past, *]
  have c6_5 : w6.cell? ⟨w3.heap.size, 5, none⟩ = some (.int .i64 r5) := by rw [(bcell hbw6).1 _ _ (by first | (simp; done) | (simp; omega) | omega)]; simp [go_sem, World.cell?_alloc_past, *]
  have c6_6 : w6.cell? ⟨w5.heap.size, 0, none⟩ = some (.int .i64 g0) := by rw [(bcell hbw6).1 _ _ (by first | (simp; done) | (simp; omega) | omega)]; simp [go_sem, World.cell?_alloc_past, *]
  have c6_7 : w6.cell? ⟨w5.heap.size, 1, none⟩ = some (.int .i64 g1) := by rw [(bcell hbw6).1 _ _ (by first | (simp; done) | (simp; omega) | omega)]; simp [go_sem, World.cell?_alloc_past, *]
  have hB6 : Below w.heap.size w w6 := (by (repeat (first | (with_reducible refine Below.drew ?_) | (with_reducible refine below_drewN ?_ _) | (with_reducible refine Below.alloc ?_ (by first | omega | (simp; done) | (simp; omega) | (simp at *; omega)) _) | (with_reducible refine Below.setCell ?_ (by first | omega | (simp; done) | (simp; omega) | (simp at *; omega)) _) | (with_reducible exact Below.refl _ _) | (with_reducible assumption) | (with_reducible refine Below.trans ?_ (Below.mono (by assumption) (by first | omega | (simp; done) | (simp; omega) | (simp at *; omega)))))))
  clear c5_0 c5_1 c5_2 c5_3 c5_4 c5_5 o5_0 n5_0 t5_0_1 t5_0_2 t5_0_3
  have o6_0 : w3.heap.size < w6.heap.size := by omega
  have n6_0 : w6.heap.size ≠ w3.heap.size := by omega
  have t6_0_1 : w3.heap.size < w6.heap.size + 1 := by omega
  have t6_0_2 : w3.heap.size < w6.heap.size + 1 + 1 := by omega
  have t6_0_3 : w3.heap.size < w6.heap.size + 1 + 1 + 1 := by omega
  have o6_1 : w5.heap.size < w6.heap.size := by omega
  have n6_1 : w6.heap.size ≠ w5.heap.size := by omega
  have t6_1_1 : w5.heap.size < w6.heap.size + 1 := by omega
  have t6_1_2 : w5.heap.size < w6.heap.size + 1 + 1 := by omega
  have t6_1_3 : w5.heap.size < w6.heap.size + 1 + 1 + 1 := by omega
  have b6 : w.heap.size ≤ w6.heap.size := by omega
  clear hbw6
  go_wp2_with fail
  refine (parts_any P A cap _ hl1 HA.out (by exact HS.out.below (by (repeat (first | (with_reducible refine Below.drew ?_) | (with_reducible refine below_drewN ?_ _) | (with_reducible refine Below.alloc ?_ (by first | omega | (simp; done) | (simp; omega) | (simp at *; omega)) _) | (with_reducible refine Below.setCell ?_ (by first | omega | (simp; done) | (simp; omega) | (simp at *; omega)) _) | (with_reducible exact Below.refl _ _) | (with_reducible assumption) | (with_reducible refine Below.trans ?_ (Below.mono (by assumption) (by first | omega | (simp; done) | (simp; omega) | (simp at *; omega))))))))).mono ?_
  rintro e w7 ⟨b7, cap7, rfl, lt7, hP7, ge7, hbw7⟩
  have HP7 := Lib.hid hP7
  clear hP7
  have z7 := hbw7.size
  try simp at z7
  have c7_0 : w7.cell? ⟨w3.heap.size, 0, none⟩ = some (.int .i64 r0) := by rw [(bcell hbw7).1 _ _ (by first | (simp; done) | (simp; omega) | omega)]; simp [go_sem, World.cell?_alloc_past, *]
  have c7_1 : w7.cell? ⟨w3.heap.size, 1, none⟩ = some (.int .i64 r1) := by rw [(bcell hbw7).1 _ _ (by first | (simp; done) | (simp; omega) | omega)]; simp [go_sem, World.cell?_alloc_past, *]
  have c7_2 : w7.cell? ⟨w3.heap.size, 2, none⟩ = some (.int .i64 r2) := by rw [(bcell hbw7).1 _ _ (by first | (simp; done) | (simp; omega) | omega)]; simp [go_sem, World.cell?_alloc_past, *]
  have c7_3 : w7.cell? ⟨w3.heap.size, 3, none⟩ = some (.int .i64 r3) := by rw [(bcell hbw7).1 _ _ (by first | (simp; done) | (simp; omega) | omega)]; simp [go_sem, World.cell?_alloc_past, *]
  have c7_4 : w7.cell? ⟨w3.heap.size, 4, none⟩ = some (.int .i64 r4) := by rw [(bcell hbw7).1 _ _ (by first | (simp; done) | (simp; omega) | omega)]; simp [go_sem, World.cell?_alloc_past, *]
  have c7_5 : w7.cell? ⟨w3.heap.size, 5, none⟩ = some (.int .i64 r5) := by rw [(bcell hbw7).1 _ _ (by first | (simp; done) | (simp; omega) | omega)]; simp [go_sem, World.cell?_alloc_past, *]
  have c7_6 : w7.cell? ⟨w5.heap.size, 0, none⟩ = some (.int .i64 g0) := by rw [(bcell hbw7).1 _ _ (by first | (simp; done) | (simp; omega) | omega)]; simp [go_sem, World.cell?_alloc_past, *]
  have c7_7 : w7.cell? ⟨w5.heap.size, 1, none⟩ = some (.int .i64 g1) := by rw [(bcell hbw7).1 _ _ (by first | (simp; done) | (simp; omega) | omega)]; simp [go_sem, World.cell?_alloc_past, *]
  have hB7 : Below w.heap.size w w7 := (by (repeat (first | (with_reducible refine Below.drew ?_) | (with_reducible refine below_drewN ?_ _) | (with_reducible refine Below.alloc ?_ (by first | omega | (simp; done) | (simp; omega) | (simp at *; omega)) _) | (with_reducible refine Below.setCell ?_ (by first | omega | (simp; done) | (simp; omega) | (simp at *; omega)) _) | (with_reducible exact Below.refl _ _) | (with_reducible assumption) | (with_reducible refine Below.trans ?_ (Below.mono (by assumption) (by first | omega | (simp; done) | (simp; omega) | (simp at *; omega)))))))
  clear c6_0 c6_1 c6_2 c6_3 c6_4 c6_5 c6_6 c6_7 o6_0 n6_0 t6_0_1 t6_0_2 t6_0_3 o6_1 n6_1 t6_1_1 t6_1_2 t6_1_3
  have o7_0 : w3.heap.size < w7.heap.size := by omega
  have n7_0 : w7.heap.size ≠ w3.heap.size := by omega
  have t7_0_1 : w3.heap.size < w7.heap.size + 1 := by omega
  have t7_0_2 : w3.heap.size < w7.heap.size + 1 + 1 := by omega
  have t7_0_3 : w3.heap.size < w7.heap.size + 1 + 1 + 1 := by omega
  have o7_1 : w5.heap.size < w7.heap.size := by omega
  have n7_1 : w7.heap.size ≠ w5.heap.size := by omega
  have t7_1_1 : w5.heap.size < w7.heap.size + 1 := by omega
  have t7_1_2 : w5.heap.size < w7.heap.size + 1 + 1 := by omega
  have t7_1_3 : w5.heap.size < w7.heap.size + 1 + 1 + 1 := by omega
  have b7 : w.heap.size ≤ w7.heap.size := by omega
  clear hbw7
  go_wp2_with fail
  refine (CheckParts_is P _ _ 0 _ hl3 lt7 HP7.out hc).mono ?_
  rintro e w8 ⟨rfl, hbw8⟩
  have z8 := hbw8.size
  try simp at z8
  have c8_0 : w8.cell? ⟨w3.heap.size, 0, none⟩ = some (.int .i64 r0) := by rw [(bcell hbw8).1 _ _ (by first | (simp; done) | (simp; omega) | omega)]; simp [go_sem, World.cell?_alloc_past, *]
  have c8_1 : w8.cell? ⟨w3.heap.size, 1, none⟩ = some (.int .i64 r1) := by rw [(bcell hbw8).1 _ _ (by first | (simp; done) | (simp; omega) | omega)]; simp [go_sem, World.cell?_alloc_past, *]
  have c8_2 : w8.cell? ⟨w3.heap.size, 2, none⟩ = some (.int .i64 r2) := by rw [(bcell hbw8).1 _ _ (by first | (simp; done) | (simp; omega) | omega)]; simp [go_sem, World.cell?_alloc_past, *]
  have c8_3 : w8.cell? ⟨w3.heap.size, 3, none⟩ = some (.int .i64 r3) := by rw [(bcell hbw8).1 _ _ (by first | (simp; done) | (simp; omega) | omega)]; simp [go_sem, World.cell?_alloc_past, *]
  have c8_4 : w8.cell? ⟨w3.heap.size, 4, none⟩ = some (.int .i64 r4) := by rw [(bcell hbw8).1 _ _ (by first | (simp; done) | (simp; omega) | omega)]; simp [go_sem, World.cell?_alloc_past, *]
  have c8_5 : w8.cell? ⟨w3.heap.size, 5, none⟩ = some (.int .i64 r5) := by rw [(bcell hbw8).1 _ _ (by first | (simp; done) | (simp; omega) | omega)]; simp [go_sem, World.cell?_alloc_past, *]
  have c8_6 : w8.cell? ⟨w5.heap.size, 0, none⟩ = some (.int .i64 g0) := by rw [(bcell hbw8).1 _ _ (by first | (simp; done) | (simp; omega) | omega)]; simp [go_sem, World.cell?_alloc_past, *]
  have c8_7 : w8.cell? ⟨w5.heap.size, 1, none⟩ = some (.int .i64 g1) := by rw [(bcell hbw8).1 _ _ (by first | (simp; done) | (simp; omega) | omega)]; simp [go_sem, World.cell?_alloc_past, *]
  have hB8 : Below w.heap.size w w8 := (by (repeat (first | (with_reducible refine Below.drew ?_) | (with_reducible refine below_drewN ?_ _) | (with_reducible refine Below.alloc ?_ (by first | omega | (simp; done) | (simp; omega) | (simp at *; omega)) _) | (with_reducible refine Below.setCell ?_ (by first | omega | (simp; done) | (simp; omega) | (simp at *; omega)) _) | (with_reducible exact Below.refl _ _) | (with_reducible assumption) | (with_reducible refine Below.trans ?_ (Below.mono (by assumption) (by first | omega | (simp; done) | (simp; omega) | (simp at *; omega)))))))
  clear c7_0 c7_1 c7_2 c7_3 c7_4 c7_5 c7_6 c7_7 o7_0 n7_0 t7_0_1 t7_0_2 t7_0_3 o7_1 n7_1 t7_1_1 t7_1_2 t7_1_3
  have o8_0 : w3.heap.size < w8.heap.size := by omega
  have n8_0 : w8.heap.size ≠ w3.heap.size := by omega
  have t8_0_1 : w3.heap.size < w8.heap.size + 1 := by omega
  have t8_0_2 : w3.heap.size < w8.heap.size + 1 + 1 := by omega
  have t8_0_3 : w3.heap.size < w8.heap.size + 1 + 1 + 1 := by omega
  have o8_1 : w5.heap.size < w8.heap.size := by omega
  have n8_1 : w8.heap.size ≠ w5.heap.size := by omega
  have t8_1_1 : w5.heap.size < w8.heap.size + 1 := by omega
  have t8_1_2 : w5.heap.size < w8.heap.size + 1 + 1 := by omega
  have t8_1_3 : w5.heap.size < w8.heap.size + 1 + 1 + 1 := by omega
  have b8 : w.heap.size ≤ w8.heap.size := by omega
  clear hbw8
  go_wp2_with fail
  refine (refMixed_is P A cap r0 r1 r2 r3 r4 r5 E _ (by exact HS.out.below (by (repeat (first | (with_reducible refine Below.drew ?_) | (with_reducible refine below_drewN ?_ _) | (with_reducible refine Below.alloc ?_ (by first | omega | (simp; done) | (simp; omega) | (simp at *; omega)) _) | (with_reducible refine Below.setCell ?_ (by first | omega | (simp; done) | (simp; omega) | (simp at *; omega)) _) | (with_reducible exact Below.refl _ _) | (with_reducible assumption) | (with_reducible refine Below.trans ?_ (Below.mono (by assumption) (by first | omega | (simp; done) | (simp; omega) | (simp at *; omega)))))))) hc.out q0 q1 q2 q3 q4 q5 hE).mono ?_
  rintro e w9 ⟨rfl, hbw9⟩
  have z9 := hbw9.size
  try simp at z9
  have c9_0 : w9.cell? ⟨w3.heap.size, 0, none⟩ = some (.int .i64 r0) := by rw [(bcell hbw9).1 _ _ (by first | (simp; done) | (simp; omega) | omega)]; simp [go_sem, World.cell?_alloc_past, *]
  have c9_1 : w9.cell? ⟨w3.heap.size, 1, none⟩ = some (.int .i64 r1) := by rw [(bcell hbw9).1 _ _ (by first | (simp; done) | (simp; omega) | omega)]; simp [go_sem, World.cell?_alloc_past, *]
  have c9_2 : w9.cell? ⟨w3.heap.size, 2, none⟩ = some (.int .i64 r2) := by rw [(bcell hbw9).1 _ _ (by first | (simp; done) | (simp; omega) | omega)]; simp [go_sem, World.cell?_alloc_past, *]
  have c9_3 : w9.cell? ⟨w3.heap.size, 3, none⟩ = some (.int .i64 r3) := by rw [(bcell hbw9).1 _ _ (by first | (simp; done) | (simp; omega) | omega)]; simp [go_sem, World.cell?_alloc_past, *]
  have c9_4 : w9.cell? ⟨w3.heap.size, 4, none⟩ = some (.int .i64 r4) := by rw [(bcell hbw9).1 _ _ (by first | (simp; done) | (simp; omega) | omega)]; simp [go_sem, World.cell?_alloc_past, *]
  have c9_5 : w9.cell? ⟨w3.heap.size, 5, none⟩ = some (.int .i64 r5) := by rw [(bcell hbw9).1 _ _ (by first | (simp; done) | (simp; omega) | omega)]; simp [go_sem, World.cell?_alloc_past, *]
  have c9_6 : w9.cell? ⟨w5.heap.size, 0, none⟩ = some (.int .i64 g0) := by rw [(bcell hbw9).1 _ _ (by first | (simp; done) | (simp; omega) | omega)]; simp [go_sem, World.cell?_alloc_past, *]
  have c9_7 : w9.cell? ⟨w5.heap.size, 1, none⟩ = some (.int .i64 g1) := by rw [(bcell hbw9).1 _ _ (by first | (simp; done) | (simp; omega) | omega)]; simp [go_sem, World.cell?_alloc_past, *]
  have hB9 : Below w.heap.size w w9 := (by (repeat (first | (with_reducible refine Below.drew ?_) | (with_reducible refine below_drewN ?_ _) | (with_reducible refine Below.alloc ?_ (by first | omega | (simp; done) | (simp; omega) | (simp at *; omega)) _) | (with_reducible refine Below.setCell ?_ (by first | omega | (simp; done) | (simp; omega) | (simp at *; omega)) _) | (with_reducible exact Below.refl _ _) | (with_reducible assumption) | (with_reducible refine Below.trans ?_ (Below.mono (by assumption) (by first | omega | (simp; done) | (simp; omega) | (simp at *; omega)))))))
  clear c8_0 c8_1 c8_2 c8_3 c8_4 c8_5 c8_6 c8_7 o8_0 n8_0 t8_0_1 t8_0_2 t8_0_3 o8_1 n8_1 t8_1_1 t8_1_2 t8_1_3
  have o9_0 : w3.heap.size < w9.heap.size := by omega
  have n9_0 : w9.heap.size ≠ w3.heap.size := by omega
  have t9_0_1 : w3.heap.size < w9.heap.size + 1 := by omega
  have t9_0_2 : w3.heap.size < w9.heap.size + 1 + 1 := by omega
  have t9_0_3 : w3.heap.size < w9.heap.size + 1 + 1 + 1 := by omega
  have o9_1 : w5.heap.size < w9.heap.size := by omega
  have n9_1 : w9.heap.size ≠ w5.heap.size := by omega
  have t9_1_1 : w5.heap.size < w9.heap.size + 1 := by omega
  have t9_1_2 : w5.heap.size < w9.heap.size + 1 + 1 := by omega
  have t9_1_3 : w5.heap.size < w9.heap.size + 1 + 1 + 1 := by omega
  have b9 : w.heap.size ≤ w9.heap.size := by omega
  clear hbw9
  have hEq := eqArrF
  go_wp2
  go_region_held3 (fun w' => w'.cell? ⟨w3.heap.size, 0, none⟩ = some (.int .i64 r0) ∧ w'.cell? ⟨w3.heap.size, 1, none⟩ = some (.int .i64 r1) ∧ w'.cell? ⟨w3.heap.size, 2, none⟩ = some (.int .i64 r2) ∧ w'.cell? ⟨w3.heap.size, 3, none⟩ = some (.int .i64 r3) ∧ w'.cell? ⟨w3.heap.size, 4, none⟩ = some (.int .i64 r4) ∧ w'.cell? ⟨w3.heap.size, 5, none⟩ = some (.int .i64 r5) ∧ w'.cell? ⟨w5.heap.size, 0, none⟩ = some (.int .i64 g0) ∧ w'.cell? ⟨w5.heap.size, 1, none⟩ = some (.int .i64 g1) ∧ w'.cell? ⟨w9.heap.size, 0, none⟩ = some (.int .i64 r0) ∧ w'.cell? ⟨w9.heap.size, 1, none⟩ = some (.int .i64 r1) ∧ w'.cell? ⟨w9.heap.size, 2, none⟩ = some (.int .i64 r2) ∧ w'.cell? ⟨w9.heap.size, 3, none⟩ = some (.int .i64 r3) ∧ w'.cell? ⟨w9.heap.size, 4, none⟩ = some (.int .i64 r4) ∧ w'.cell? ⟨w9.heap.size, 5, none⟩ = some (.int .i64 r5)) (simp [go_sem, World.cell?_alloc_past, *]) (first | (go_at_call 61; (with_reducible refine (refNearest_is P A cap g0 g1 _ (by exact HS.out.below (by (repeat (first | (with_reducible refine Below.drew ?_) | (with_reducible refine below_drewN ?_ _) | (with_reducible refine Below.alloc ?_ (by first | omega | (simp; done) | (simp; omega) | (simp at *; omega)) _) | (with_reducible refine Below.setCell ?_ (by first | omega | (simp; done) | (simp; omega) | (simp at *; omega)) _) | (with_reducible exact Below.refl _ _) | (with_reducible assumption) | (with_reducible refine Below.trans ?_ (Below.mono (by assumption) (by first | omega | (simp; done) | (simp; omega) | (simp at *; omega)))))))) hc.out m0 m1).mono ?_); rintro e wN ⟨rfl, hbwN⟩; have zN := hbwN.size; (try simp at zN); have y0 : wN.cell? ⟨w3.heap.size, 0, none⟩ = some (.int .i64 r0) := (by rw [(bcell hbwN).1 _ _ (by first | (simp; done) | (simp; omega) | omega)]; simp [go_sem, World.cell?_alloc_past, *]); have y1 : wN.cell? ⟨w3.heap.size, 1, none⟩ = some (.int .i64 r1) := (by rw [(bcell hbwN).1 _ _ (by first | (simp; done) | (simp; omega) | omega)]; simp [go_sem, World.cell?_alloc_past, *]); have y2 : wN.cell? ⟨w3.heap.size, 2, none⟩ = some (.int .i64 r2) := (by rw [(bcell hbwN).1 _ _ (by first | (simp; done) | (simp; omega) | omega)]; simp [go_sem, World.cell?_alloc_past, *]); have y3 : wN.cell? ⟨w3.heap.size, 3, none⟩ = some (.int .i64 r3) := (by rw [(bcell hbwN).1 _ _ (by first | (simp; done) | (simp; omega) | omega)]; simp [go_sem, World.cell?_alloc_past, *]); have y4 : wN.cell? ⟨w3.heap.size, 4, none⟩ = some (.int .i64 r4) := (by rw [(bcell hbwN).1 _ _ (by first | (simp; done) | (simp; omega) | omega)]; simp [go_sem, World.cell?_alloc_past, *]); have y5 : wN.cell? ⟨w3.heap.size, 5, none⟩ = some (.int .i64 r5) := (by rw [(bcell hbwN).1 _ _ (by first | (simp; done) | (simp; omega) | omega)]; simp [go_sem, World.cell?_alloc_past, *]); have y6 : wN.cell? ⟨w5.heap.size, 0, none⟩ = some (.int .i64 g0) := (by rw [(bcell hbwN).1 _ _ (by first | (simp; done) | (simp; omega) | omega)]; simp [go_sem, World.cell?_alloc_past, *]); have y7 : wN.cell? ⟨w5.heap.size, 1, none⟩ = some (.int .i64 g1) := (by rw [(bcell hbwN).1 _ _ (by first | (simp; done) | (simp; omega) | omega)]; simp [go_sem, World.cell?_alloc_past, *]); have y8 : wN.cell? ⟨w9.heap.size, 0, none⟩ = some (.int .i64 r0) := (by rw [(bcell hbwN).1 _ _ (by first | (simp; done) | (simp; omega) | omega)]; simp [go_sem, World.cell?_alloc_past, *]); have y9 : wN.cell? ⟨w9.heap.size, 1, none⟩ = some (.int .i64 r1) := (by rw [(bcell hbwN).1 _ _ (by first | (simp; done) | (simp; omega) | omega)]; simp [go_sem, World.cell?_alloc_past, *]); have y10 : wN.cell? ⟨w9.heap.size, 2, none⟩ = some (.int .i64 r2) := (by rw [(bcell hbwN).1 _ _ (by first | (simp; done) | (simp; omega) | omega)]; simp [go_sem, World.cell?_alloc_past, *]); have y11 : wN.cell? ⟨w9.heap.size, 3, none⟩ = some (.int .i64 r3) := (by rw [(bcell hbwN).1 _ _ (by first | (simp; done) | (simp; omega) | omega)]; simp [go_sem, World.cell?_alloc_past, *]); have y12 : wN.cell? ⟨w9.heap.size, 4, none⟩ = some (.int .i64 r4) := (by rw [(bcell hbwN).1 _ _ (by first | (simp; done) | (simp; omega) | omega)]; simp [go_sem, World.cell?_alloc_past, *]); have y13 : wN.cell? ⟨w9.heap.size, 5, none⟩ = some (.int .i64 r5) := (by rw [(bcell hbwN).1 _ _ (by first | (simp; done) | (simp; omega) | omega)]; simp [go_sem, World.cell?_alloc_past, *]); have u0 : w3.heap.size < wN.heap.size := (by omega); have v0 : wN.heap.size ≠ w3.heap.size := (by omega); have u1 : w5.heap.size < wN.heap.size := (by omega); have v1 : wN.heap.size ≠ w5.heap.size := (by omega); have u2 : w9.heap.size < wN.heap.size := (by omega); have v2 : wN.heap.size ≠ w9.heap.size := (by omega); have hBN : Below w.heap.size w wN := (by (repeat (first | (with_reducible refine Below.drew ?_) | (with_reducible refine below_drewN ?_ _) | (with_reducible refine Below.alloc ?_ (by first | omega | (simp; done) | (simp; omega) | (simp at *; omega)) _) | (with_reducible refine Below.setCell ?_ (by first | omega | (simp; done) | (simp; omega) | (simp at *; omega)) _) | (with_reducible exact Below.refl _ _) | (with_reducible assumption) | (with_reducible refine Below.trans ?_ (Below.mono (by assumption) (by first | omega | (simp; done) | (simp; omega) | (simp at *; omega)))))))) | (go_at_call 21; (with_reducible refine (CheckGas_m g0 g1 0 _ hg).mono ?_); rintro e wG ⟨rfl, rfl⟩))
  go_wp2
  go_ret
  exact ⟨by first | rfl | (simp; done) | (apply ret_bool; simp), (by (repeat (first | (with_reducible refine Below.drew ?_) | (with_reducible refine below_drewN ?_ _) | (with_reducible refine Below.alloc ?_ (by first | omega | (simp; done) | (simp; omega) | (simp at *; omega)) _) | (with_reducible refine Below.setCell ?_ (by first | omega | (simp; done) | (simp; omega) | (simp at *; omega)) _) | (with_reducible exact Below.refl _ _) | (with_reducible assumption) | (with_reducible refine Below.trans ?_ (Below.mono (by assumption) (by first | omega | (simp; done) | (simp; omega) | (simp at *; omega)))))))⟩
theorem gasMixes_any (P : List Part) (A : Option Addr) (cap : Nat) (w : World) (m : Int) (hm : w.cell? ⟨1, 0, none⟩ = some (.int .i64 m)) (hl : P.length ≤ 9223372036854775807) (hA : A = none → cap = 0) (hS : PSl w A P) :
    Calls Tryd.prog 14 #[.slice A P.length cap] w fun e w' => e = .returned (.bool true) ∧ Below w.heap.size w w' := by
  by_cases hx : P.length ≤ 15
  · have hx' : decide (P.length ≤ 15) = true := by simpa using hx
    rcases ez (checkPartsE P) with ⟨hc, hcb⟩ | ⟨hc, hcb⟩
    · have h0 : checkPartsE P = 0 := by simpa using hcb
      have r0 : nearR P 0 = nearO P := by unfold nearR; rw [if_pos h0]; rfl
      have r1 : nearR P 1 = nearH P := by unfold nearR; rw [if_pos h0]; rfl
      exact mlaw_ok P A cap w m hm hl hx' (by omega) (by omega) hA hS _ _ _ _ _ _ _ (nearO P) (nearH P) h0 rfl rfl rfl rfl rfl rfl rfl r0 r1 rfl rfl (near_ok h0)
    · have he : mixE P = checkPartsE P := if_neg hc.out
      have hr : ∀ j, mixR P j = 0 := fun j => by unfold mixR; rw [he, if_neg hc.out]
      have hn : ∀ j, nearR P j = 0 := fun j => if_neg hc.out
      exact mlaw_err P A cap w m hm hl hx' (by omega) (by omega) hA hS _ rfl he (hr 0) (hr 1) (hr 2) (hr 3) (hr 4) (hr 5) (hn 0) (hn 1) hcb (by simpa using hc.out)
  · exact mlaw_big P A cap w m hm hl (by show _ = _; simpa using hx)
end Go.Proofs.YtebieflnlmdllaaDoor
