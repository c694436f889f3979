/- The walk of shotlinelaw01.GasWeights: it returns true. -/
import Derived.Test.YtebieflnlmdllaaDoorAwake
import Derived.Test.YtebieflnlmdllaaDoorIs
import Derived.Test.YtebieflnlmdllaaDoorWeigh2
import Derived.Deep.Cut
import Derived.Outline
namespace Go.Proofs.YtebieflnlmdllaaDoor
open Go.ChangeShapes Go.WideShapes Go.ChangeAt Go.RowKit
set_option linter.unusedVariables false
set_option linter.unusedSimpArgs false
attribute [local go_sem ↓] Go.wp_at_zero Go.wp_at_succ

theorem refCheckGas_w (o h c : Int) (w : World) (hc : Hid (gasE o h = c)) :
    Calls Tryd.prog 20 #[.agg #[.int .i64 o, .int .i64 h]] w fun e w' => e = .returned (.int .i64 c) ∧ w.alloc (.cells #[.int .i64 o, .int .i64 h] 23) = w' := by
  have := refCheckGas_any o h w
  rw [hc.out] at this
  exact this
theorem IsPressure_w (n : Int) (b : Bool) (w : World) (hb : Hid (inB n 0 100000 = b)) :
    Calls Tryd.prog 27 #[.int .i64 n] w fun e w' => e = .returned (.bool b) ∧ w = w' := by
  have := IsPressure_any n w
  rw [hb.out] at this
  exact this
theorem paE_gw {o h d : Int} (k : gasE o h ≠ 0) : paE o h d = gasE o h := by unfold paE firE; rw [if_neg k]
theorem paE_pw {o h d : Int} (k : gasE o h = 0) (k2 : inB d 0 100000 = false) : paE o h d = 2 := by
  unfold paE; rw [k, rngE_f k2]; decide
theorem paE_kw {o h d : Int} (k : gasE o h = 0) (k2 : inB d 0 100000 = true) : paE o h d = 0 := by
  unfold paE; rw [k, rngE_t k2]; decide
theorem wtE_gw {o h d : Int} (k : gasE o h ≠ 0) : wtE o h d = gasE o h := by unfold wtE firE; rw [if_neg k]
theorem wtE_pw {o h d : Int} (k : gasE o h = 0) (k2 : inB d 0 1000000000 = false) : wtE o h d = 2 := by
  unfold wtE; rw [k, rngE_f k2]; decide
theorem wtE_kw {o h d : Int} (k : gasE o h = 0) (k2 : inB d 0 1000000000 = true) : wtE o h d = 0 := by
  unfold wtE; rw [k, rngE_t k2]; decide
set_option maxRecDepth 100000 in
set_option maxHeartbeats 4000000 in
theorem wlaw_g (o h p n : Int) (w : World) (m : Int) (hm : w.cell? ⟨1, 0, none⟩ = some (.int .i64 m)) (c : Int) (hg : Hid (gasE o h = c)) (hp : Hid (paE o h p = c)) (ha : Hid (wtE o h n = c)) (hc1 : (c != 0) = true) (hc2 : (c == 0) = false) :
    Calls Tryd.prog 11 #[.agg #[.int .i64 o, .int .i64 h], .int .i64 p, .int .i64 n] w fun e w' => e = .returned (.bool true) ∧ Below w.heap.size w w' := by
  have hl := World.block_lt_of_cell? _ _ hm
  have hne : w.heap.size ≠ 1 := by simp at hl; omega
  have hl2 : 1 < w.heap.size := by simpa using hl
  go_enter Tryd.func11, Tryd.ntmps11
  go_wp2_with fail
  refine (awake_any _ m (by exact oldCell (by (repeat (first | (with_reducible refine Below.drew ?_) | (with_reducible refine below_drewN ?_ _) | (with_reducible refine Below.alloc ?_ (by first | omega | (simp; done) | (simp; omega) | (simp at *; omega)) _) | (with_reducible refine Below.setCell ?_ (by first | omega | (simp; done) | (simp; omega) | (simp at *; omega)) _) | (with_reducible exact Below.refl _ _) | (with_reducible assumption) | (with_reducible refine Below.trans ?_ (Below.mono (by assumption) (by first | omega | (simp; done) | (simp; omega) | (simp at *; omega))))))) hm)).mono ?_
  rintro e w1 ⟨rfl, hbw1⟩
  have z1 := hbw1.size
  try simp at z1
  have c1_0 : w1.cell? ⟨w.heap.size, 0, none⟩ = some (.int .i64 o) := by rw [(bcell hbw1).1 _ _ (by first | (simp; done) | (simp; omega) | omega)]; simp [go_sem, World.cell?_alloc_past, *]
  have c1_1 : w1.cell? ⟨w.heap.size, 1, none⟩ = some (.int .i64 h) := by rw [(bcell hbw1).1 _ _ (by first | (simp; done) | (simp; omega) | omega)]; simp [go_sem, World.cell?_alloc_past, *]
  have hB1 : Below w.heap.size w w1 := (by (repeat (first | (with_reducible refine Below.drew ?_) | (with_reducible refine below_drewN ?_ _) | (with_reducible refine Below.alloc ?_ (by first | omega | (simp; done) | (simp; omega) | (simp at *; omega)) _) | (with_reducible refine Below.setCell ?_ (by first | omega | (simp; done) | (simp; omega) | (simp at *; omega)) _) | (with_reducible exact Below.refl _ _) | (with_reducible assumption) | (with_reducible refine Below.trans ?_ (Below.mono (by assumption) (by first | omega | (simp; done) | (simp; omega) | (simp at *; omega)))))))
  have o1_0 : w.heap.size < w1.heap.size := by omega
  have n1_0 : w1.heap.size ≠ w.heap.size := by omega
  have t1_0_1 : w.heap.size < w1.heap.size + 1 := by omega
  have t1_0_2 : w.heap.size < w1.heap.size + 1 + 1 := by omega
  have t1_0_3 : w.heap.size < w1.heap.size + 1 + 1 + 1 := by omega
  have t1_0_4 : w.heap.size < w1.heap.size + 1 + 1 + 1 + 1 := by omega
  have t1_0_5 : w.heap.size < w1.heap.size + 1 + 1 + 1 + 1 + 1 := by omega
  have t1_0_6 : w.heap.size < w1.heap.size + 1 + 1 + 1 + 1 + 1 + 1 := by omega
  have t1_0_7 : w.heap.size < w1.heap.size + 1 + 1 + 1 + 1 + 1 + 1 + 1 := by omega
  have t1_0_8 : w.heap.size < w1.heap.size + 1 + 1 + 1 + 1 + 1 + 1 + 1 + 1 := by omega
  have b1 : w.heap.size ≤ w1.heap.size := by omega
  clear hbw1
  go_wp2_with fail
  refine (Density_bad o h p c _ hp hc1).mono ?_
  rintro e w2 ⟨rfl, hbw2⟩
  have z2 := hbw2.size
  try simp at z2
  have c2_0 : w2.cell? ⟨w.heap.size, 0, none⟩ = some (.int .i64 o) := by rw [(bcell hbw2).1 _ _ (by first | (simp; done) | (simp; omega) | omega)]; simp [go_sem, World.cell?_alloc_past, *]
  have c2_1 : w2.cell? ⟨w.heap.size, 1, none⟩ = some (.int .i64 h) := by rw [(bcell hbw2).1 _ _ (by first | (simp; done) | (simp; omega) | omega)]; simp [go_sem, World.cell?_alloc_past, *]
  have hB2 : Below w.heap.size w w2 := (by (repeat (first | (with_reducible refine Below.drew ?_) | (with_reducible refine below_drewN ?_ _) | (with_reducible refine Below.alloc ?_ (by first | omega | (simp; done) | (simp; omega) | (simp at *; omega)) _) | (with_reducible refine Below.setCell ?_ (by first | omega | (simp; done) | (simp; omega) | (simp at *; omega)) _) | (with_reducible exact Below.refl _ _) | (with_reducible assumption) | (with_reducible refine Below.trans ?_ (Below.mono (by assumption) (by first | omega | (simp; done) | (simp; omega) | (simp at *; omega)))))))
  clear c1_0 c1_1 o1_0 n1_0 t1_0_1 t1_0_2 t1_0_3 t1_0_4 t1_0_5 t1_0_6 t1_0_7 t1_0_8
  have o2_0 : w.heap.size < w2.heap.size := by omega
  have n2_0 : w2.heap.size ≠ w.heap.size := by omega
  have t2_0_1 : w.heap.size < w2.heap.size + 1 := by omega
  have t2_0_2 : w.heap.size < w2.heap.size + 1 + 1 := by omega
  have t2_0_3 : w.heap.size < w2.heap.size + 1 + 1 + 1 := by omega
  have t2_0_4 : w.heap.size < w2.heap.size + 1 + 1 + 1 + 1 := by omega
  have t2_0_5 : w.heap.size < w2.heap.size + 1 + 1 + 1 + 1 + 1 := by omega
  have t2_0_6 : w.heap.size < w2.heap.size + 1 + 1 + 1 + 1 + 1 + 1 := by omega
  have t2_0_7 : w.heap.size < w2.heap.size + 1 + 1 + 1 + 1 + 1 + 1 + 1 := by omega
  have t2_0_8 : w.heap.size < w2.heap.size + 1 + 1 + 1 + 1 + 1 + 1 + 1 + 1 := by omega
  have b2 : w.heap.size ≤ w2.heap.size := by omega
  clear hbw2
  go_wp2_with fail
  refine (WeightOf_bad o h n c _ ha hc1).mono ?_
  rintro e w3 ⟨rfl, hbw3⟩
  have z3 := hbw3.size
  try simp at z3
  have c3_0 : w3.cell? ⟨w.heap.size, 0, none⟩ = some (.int .i64 o) := by rw [(bcell hbw3).1 _ _ (by first | (simp; done) | (simp; omega) | omega)]; simp [go_sem, World.cell?_alloc_past, *]
  have c3_1 : w3.cell? ⟨w.heap.size, 1, none⟩ = some (.int .i64 h) := by rw [(bcell hbw3).1 _ _ (by first | (simp; done) | (simp; omega) | omega)]; simp [go_sem, World.cell?_alloc_past, *]
  have c3_2 : w3.cell? ⟨w2.heap.size, 0, none⟩ = some (.int .i64 0) := by rw [(bcell hbw3).1 _ _ (by first | (simp; done) | (simp; omega) | omega)]; simp [go_sem, World.cell?_alloc_past, *]
  have c3_3 : w3.cell? ⟨w2.heap.size, 1, none⟩ = some (.int .i64 0) := by rw [(bcell hbw3).1 _ _ (by first | (simp; done) | (simp; omega) | omega)]; simp [go_sem, World.cell?_alloc_past, *]
  have hB3 : Below w.heap.size w w3 := (by (repeat (first | (with_reducible refine Below.drew ?_) | (with_reducible refine below_drewN ?_ _) | (with_reducible refine Below.alloc ?_ (by first | omega | (simp; done) | (simp; omega) | (simp at *; omega)) _) | (with_reducible refine Below.setCell ?_ (by first | omega | (simp; done) | (simp; omega) | (simp at *; omega)) _) | (with_reducible exact Below.refl _ _) | (with_reducible assumption) | (with_reducible refine Below.trans ?_ (Below.mono (by assumption) (by first | omega | (simp; done) | (simp; omega) | (simp at *; omega)))))))
  clear c2_0 c2_1 o2_0 n2_0 t2_0_1 t2_0_2 t2_0_3 t2_0_4 t2_0_5 t2_0_6 t2_0_7 t2_0_8
  have o3_0 : w.heap.size < w3.heap.size := by omega
  have n3_0 : w3.heap.size ≠ w.heap.size := by omega
  have t3_0_1 : w.heap.size < w3.heap.size + 1 := by omega
  have t3_0_2 : w.heap.size < w3.heap.size + 1 + 1 := by omega
  have t3_0_3 : w.heap.size < w3.heap.size + 1 + 1 + 1 := by omega
  have t3_0_4 : w.heap.size < w3.heap.size + 1 + 1 + 1 + 1 := by omega
  have t3_0_5 : w.heap.size < w3.heap.size + 1 + 1 + 1 + 1 + 1 := by omega
  have t3_0_6 : w.heap.size < w3.heap.size + 1 + 1 + 1 + 1 + 1 + 1 := by omega
  have t3_0_7 : w.heap.size < w3.heap.size + 1 + 1 + 1 + 1 + 1 + 1 + 1 := by omega
  have t3_0_8 : w.heap.size < w3.heap.size + 1 + 1 + 1 + 1 + 1 + 1 + 1 + 1 := by omega
  have o3_1 : w2.heap.size < w3.heap.size := by omega
  have n3_1 : w3.heap.size ≠ w2.heap.size := by omega
  have t3_1_1 : w2.heap.size < w3.heap.size + 1 := by omega
  have t3_1_2 : w2.heap.size < w3.heap.size + 1 + 1 := by omega
  have t3_1_3 : w2.heap.size < w3.heap.size + 1 + 1 + 1 := by omega
  have t3_1_4 : w2.heap.size < w3.heap.size + 1 + 1 + 1 + 1 := by omega
  have t3_1_5 : w2.heap.size < w3.heap.size + 1 + 1 + 1 + 1 + 1 := by omega
  have t3_1_6 : w2.heap.size < w3.heap.size + 1 + 1 + 1 + 1 + 1 + 1 := by omega
  have t3_1_7 : w2.heap.size < w3.heap.size + 1 + 1 + 1 + 1 + 1 + 1 + 1 := by omega
  have t3_1_8 : w2.heap.size < w3.heap.size + 1 + 1 + 1 + 1 + 1 + 1 + 1 + 1 := by omega
  have b3 : w.heap.size ≤ w3.heap.size := by omega
  clear hbw3
  go_wp2_with (first | (go_at_call 20; ((with_reducible refine (refCheckGas_w _ _ c _ hg).mono ?_)); rintro e w' ⟨rfl, rfl⟩))
  go_big_quiet (fail)
  go_wp2
  go_ret
  exact ⟨rfl, (by (repeat (first | (with_reducible refine Below.drew ?_) | (with_reducible refine below_drewN ?_ _) | (with_reducible refine Below.alloc ?_ (by first | omega | (simp; done) | (simp; omega) | (simp at *; omega)) _) | (with_reducible refine Below.setCell ?_ (by first | omega | (simp; done) | (simp; omega) | (simp at *; omega)) _) | (with_reducible exact Below.refl _ _) | (with_reducible assumption) | (with_reducible refine Below.trans ?_ (Below.mono (by assumption) (by first | omega | (simp; done) | (simp; omega) | (simp at *; omega)))))))⟩
set_option maxRecDepth 100000 in
set_option maxHeartbeats 4000000 in
theorem wlaw_bb (o h p n : Int) (w : World) (m : Int) (hm : w.cell? ⟨1, 0, none⟩ = some (.int .i64 m)) (hg : Hid (gasE o h = 0)) (k1 : 0 ≤ o) (k2 : o ≤ 1000) (k3 : 0 ≤ h) (k4 : h ≤ 1000) (k7 : o + h ≤ 1000) (hip : Hid (inB p 0 100000 = false)) (hp : Hid (paE o h p = 2)) (hin : Hid (inB n 0 1000000000 = false)) (ha : Hid (wtE o h n = 2)) :
    Calls Tryd.prog 11 #[.agg #[.int .i64 o, .int .i64 h], .int .i64 p, .int .i64 n] w fun e w' => e = .returned (.bool true) ∧ Below w.heap.size w w' := by
  have hl := World.block_lt_of_cell? _ _ hm
  have hne : w.heap.size ≠ 1 := by simp at hl; omega
  have hl2 : 1 < w.heap.size := by simpa using hl
  go_enter Tryd.func11, Tryd.ntmps11
  go_wp2_with fail
  refine (awake_any _ m (by exact oldCell (by (repeat (first | (with_reducible refine Below.drew ?_) | (with_reducible refine below_drewN ?_ _) | (with_reducible refine Below.alloc ?_ (by first | omega | (simp; done) | (simp; omega) | (simp at *; omega)) _) | (with_reducible refine Below.setCell ?_ (by first | omega | (simp; done) | (simp; omega) | (simp at *; omega)) _) | (with_reducible exact Below.refl _ _) | (with_reducible assumption) | (with_reducible refine Below.trans ?_ (Below.mono (by assumption) (by first | omega | (simp; done) | (simp; omega) | (simp at *; omega))))))) hm)).mono ?_
  rintro e w1 ⟨rfl, hbw1⟩
  have z1 := hbw1.size
  try simp at z1
  have c1_0 : w1.cell? ⟨w.heap.size, 0, none⟩ = some (.int .i64 o) := by rw [(bcell hbw1).1 _ _ (by first | (simp; done) | (simp; omega) | omega)]; simp [go_sem, World.cell?_alloc_past, *]
  have c1_1 : w1.cell? ⟨w.heap.size, 1, none⟩ = some (.int .i64 h) := by rw [(bcell hbw1).1 _ _ (by first | (simp; done) | (simp; omega) | omega)]; simp [go_sem, World.cell?_alloc_past, *]
  have hB1 : Below w.heap.size w w1 := (by (repeat (first | (with_reducible refine Below.drew ?_) | (with_reducible refine below_drewN ?_ _) | (with_reducible refine Below.alloc ?_ (by first | omega | (simp; done) | (simp; omega) | (simp at *; omega)) _) | (with_reducible refine Below.setCell ?_ (by first | omega | (simp; done) | (simp; omega) | (simp at *; omega)) _) | (with_reducible exact Below.refl _ _) | (with_reducible assumption) | (with_reducible refine Below.trans ?_ (Below.mono (by assumption) (by first | omega | (simp; done) | (simp; omega) | (simp at *; omega)))))))
  have o1_0 : w.heap.size < w1.heap.size := by omega
  have n1_0 : w1.heap.size ≠ w.heap.size := by omega
  have t1_0_1 : w.heap.size < w1.heap.size + 1 := by omega
  have t1_0_2 : w.heap.size < w1.heap.size + 1 + 1 := by omega
  have t1_0_3 : w.heap.size < w1.heap.size + 1 + 1 + 1 := by omega
  have t1_0_4 : w.heap.size < w1.heap.size + 1 + 1 + 1 + 1 := by omega
  have t1_0_5 : w.heap.size < w1.heap.size + 1 + 1 + 1 + 1 + 1 := by omega
  have t1_0_6 : w.heap.size < w1.heap.size + 1 + 1 + 1 + 1 + 1 + 1 := by omega
  have t1_0_7 : w.heap.size < w1.heap.size + 1 + 1 + 1 + 1 + 1 + 1 + 1 := by omega
  have t1_0_8 : w.heap.size < w1.heap.size + 1 + 1 + 1 + 1 + 1 + 1 + 1 + 1 := by omega
  have b1 : w.heap.size ≤ w1.heap.size := by omega
  clear hbw1
  go_wp2_with fail
  refine (Density_bad o h p 2 _ hp (by decide)).mono ?_
  rintro e w2 ⟨rfl, hbw2⟩
  have z2 := hbw2.size
  try simp at z2
  have c2_0 : w2.cell? ⟨w.heap.size, 0, none⟩ = some (.int .i64 o) := by rw [(bcell hbw2).1 _ _ (by first | (simp; done) | (simp; omega) | omega)]; simp [go_sem, World.cell?_alloc_past, *]
  have c2_1 : w2.cell? ⟨w.heap.size, 1, none⟩ = some (.int .i64 h) := by rw [(bcell hbw2).1 _ _ (by first | (simp; done) | (simp; omega) | omega)]; simp [go_sem, World.cell?_alloc_past, *]
  have hB2 : Below w.heap.size w w2 := (by (repeat (first | (with_reducible refine Below.drew ?_) | (with_reducible refine below_drewN ?_ _) | (with_reducible refine Below.alloc ?_ (by first | omega | (simp; done) | (simp; omega) | (simp at *; omega)) _) | (with_reducible refine Below.setCell ?_ (by first | omega | (simp; done) | (simp; omega) | (simp at *; omega)) _) | (with_reducible exact Below.refl _ _) | (with_reducible assumption) | (with_reducible refine Below.trans ?_ (Below.mono (by assumption) (by first | omega | (simp; done) | (simp; omega) | (simp at *; omega)))))))
  clear c1_0 c1_1 o1_0 n1_0 t1_0_1 t1_0_2 t1_0_3 t1_0_4 t1_0_5 t1_0_6 t1_0_7 t1_0_8
  have o2_0 : w.heap.size < w2.heap.size := by omega
  have n2_0 : w2.heap.size ≠ w.heap.size := by omega
  have t2_0_1 : w.heap.size < w2.heap.size + 1 := by omega
  have t2_0_2 : w.heap.size < w2.heap.size + 1 + 1 := by omega
  have t2_0_3 : w.heap.size < w2.heap.size + 1 + 1 + 1 := by omega
  have t2_0_4 : w.heap.size < w2.heap.size + 1 + 1 + 1 + 1 := by omega
  have t2_0_5 : w.heap.size < w2.heap.size + 1 + 1 + 1 + 1 + 1 := by omega
  have t2_0_6 : w.heap.size < w2.heap.size + 1 + 1 + 1 + 1 + 1 + 1 := by omega
  have t2_0_7 : w.heap.size < w2.heap.size + 1 + 1 + 1 + 1 + 1 + 1 + 1 := by omega
  have t2_0_8 : w.heap.size < w2.heap.size + 1 + 1 + 1 + 1 + 1 + 1 + 1 + 1 := by omega
  have b2 : w.heap.size ≤ w2.heap.size := by omega
  clear hbw2
  go_wp2_with fail
  refine (WeightOf_bad o h n 2 _ ha (by decide)).mono ?_
  rintro e w3 ⟨rfl, hbw3⟩
  have z3 := hbw3.size
  try simp at z3
  have c3_0 : w3.cell? ⟨w.heap.size, 0, none⟩ = some (.int .i64 o) := by rw [(bcell hbw3).1 _ _ (by first | (simp; done) | (simp; omega) | omega)]; simp [go_sem, World.cell?_alloc_past, *]
  have c3_1 : w3.cell? ⟨w.heap.size, 1, none⟩ = some (.int .i64 h) := by rw [(bcell hbw3).1 _ _ (by first | (simp; done) | (simp; omega) | omega)]; simp [go_sem, World.cell?_alloc_past, *]
  have c3_2 : w3.cell? ⟨w2.heap.size, 0, none⟩ = some (.int .i64 0) := by rw [(bcell hbw3).1 _ _ (by first | (simp; done) | (simp; omega) | omega)]; simp [go_sem, World.cell?_alloc_past, *]
  have c3_3 : w3.cell? ⟨w2.heap.size, 1, none⟩ = some (.int .i64 0) := by rw [(bcell hbw3).1 _ _ (by first | (simp; done) | (simp; omega) | omega)]; simp [go_sem, World.cell?_alloc_past, *]
  have hB3 : Below w.heap.size w w3 := (by (repeat (first | (with_reducible refine Below.drew ?_) | (with_reducible refine below_drewN ?_ _) | (with_reducible refine Below.alloc ?_ (by first | omega | (simp; done) | (simp; omega) | (simp at *; omega)) _) | (with_reducible refine Below.setCell ?_ (by first | omega | (simp; done) | (simp; omega) | (simp at *; omega)) _) | (with_reducible exact Below.refl _ _) | (with_reducible assumption) | (with_reducible refine Below.trans ?_ (Below.mono (by assumption) (by first | omega | (simp; done) | (simp; omega) | (simp at *; omega)))))))
  clear c2_0 c2_1 o2_0 n2_0 t2_0_1 t2_0_2 t2_0_3 t2_0_4 t2_0_5 t2_0_6 t2_0_7 t2_0_8
  have o3_0 : w.heap.size < w3.heap.size := by omega
  have n3_0 : w3.heap.size ≠ w.heap.size := by omega
  have t3_0_1 : w.heap.size < w3.heap.size + 1 := by omega
  have t3_0_2 : w.heap.size < w3.heap.size + 1 + 1 := by omega
  have t3_0_3 : w.heap.size < w3.heap.size + 1 + 1 + 1 := by omega
  have t3_0_4 : w.heap.size < w3.heap.size + 1 + 1 + 1 + 1 := by omega
  have t3_0_5 : w.heap.size < w3.heap.size + 1 + 1 + 1 + 1 + 1 := by omega
  have t3_0_6 : w.heap.size < w3.heap.size + 1 + 1 + 1 + 1 + 1 + 1 := by omega
  have t3_0_7 : w.heap.size < w3.heap.size + 1 + 1 + 1 + 1 + 1 + 1 + 1 := by omega
  have t3_0_8 : w.heap.size < w3.heap.size + 1 + 1 + 1 + 1 + 1 + 1 + 1 + 1 := by omega
  have o3_1 : w2.heap.size < w3.heap.size := by omega
  have n3_1 : w3.heap.size ≠ w2.heap.size := by omega
  have t3_1_1 : w2.heap.size < w3.heap.size + 1 := by omega
  have t3_1_2 : w2.heap.size < w3.heap.size + 1 + 1 := by omega
  have t3_1_3 : w2.heap.size < w3.heap.size + 1 + 1 + 1 := by omega
  have t3_1_4 : w2.heap.size < w3.heap.size + 1 + 1 + 1 + 1 := by omega
  have t3_1_5 : w2.heap.size < w3.heap.size + 1 + 1 + 1 + 1 + 1 := by omega
  have t3_1_6 : w2.heap.size < w3.heap.size + 1 + 1 + 1 + 1 + 1 + 1 := by omega
  have t3_1_7 : w2.heap.size < w3.heap.size + 1 + 1 + 1 + 1 + 1 + 1 + 1 := by omega
  have t3_1_8 : w2.heap.size < w3.heap.size + 1 + 1 + 1 + 1 + 1 + 1 + 1 + 1 := by omega
  have b3 : w.heap.size ≤ w3.heap.size := by omega
  clear hbw3
  go_wp2_with (first | (go_at_call 20; ((with_reducible refine (refCheckGas_w _ _ 0 _ hg).mono ?_)); rintro e w' ⟨rfl, rfl⟩) | (go_at_call 27; ((with_reducible refine (IsPressure_w p false _ hip).mono ?_)); rintro e w' ⟨rfl, rfl⟩) | (go_at_call 34; ((with_reducible refine (baseWithin_b n _ _ false _ hin).mono ?_)); rintro e w' ⟨rfl, rfl⟩))
  go_big_quiet (fail)
  go_wp2
  go_ret
  exact ⟨rfl, (by (repeat (first | (with_reducible refine Below.drew ?_) | (with_reducible refine below_drewN ?_ _) | (with_reducible refine Below.alloc ?_ (by first | omega | (simp; done) | (simp; omega) | (simp at *; omega)) _) | (with_reducible refine Below.setCell ?_ (by first | omega | (simp; done) | (simp; omega) | (simp at *; omega)) _) | (with_reducible exact Below.refl _ _) | (with_reducible assumption) | (with_reducible refine Below.trans ?_ (Below.mono (by assumption) (by first | omega | (simp; done) | (simp; omega) | (simp at *; omega)))))))⟩
set_option maxRecDepth 100000 in
set_option maxHeartbeats 4000000 in
theorem wlaw_bk (o h p n : Int) (w : World) (m : Int) (hm : w.cell? ⟨1, 0, none⟩ = some (.int .i64 m)) (hg : Hid (gasE o h = 0)) (k1 : 0 ≤ o) (k2 : o ≤ 1000) (k3 : 0 ≤ h) (k4 : h ≤ 1000) (k7 : o + h ≤ 1000) (hip : Hid (inB p 0 100000 = false)) (hp : Hid (paE o h p = 2)) (hin : Hid (inB n 0 1000000000 = true)) (ha : Hid (wtE o h n = 0)) (k8 : 0 ≤ n) (k9 : n ≤ 1000000000) (U V : Int) (hU : Hid (wgt o h * n / 1013000 = U)) (hV : Hid ((wgt o h * n + 1013000 - 1) / 1013000 = V)) :
    Calls Tryd.prog 11 #[.agg #[.int .i64 o, .int .i64 h], .int .i64 p, .int .i64 n] w fun e w' => e = .returned (.bool true) ∧ Below w.heap.size w w' := by
  have hl := World.block_lt_of_cell? _ _ hm
  have hne : w.heap.size ≠ 1 := by simp at hl; omega
  have hl2 : 1 < w.heap.size := by simpa using hl
  go_enter Tryd.func11, Tryd.ntmps11
  go_wp2_with fail
  refine (awake_any _ m (by exact oldCell (by (repeat (first | (with_reducible refine Below.drew ?_) | (with_reducible refine below_drewN ?_ _) | (with_reducible refine Below.alloc ?_ (by first | omega | (simp; done) | (simp; omega) | (simp at *; omega)) _) | (with_reducible refine Below.setCell ?_ (by first | omega | (simp; done) | (simp; omega) | (simp at *; omega)) _) | (with_reducible exact Below.refl _ _) | (with_reducible assumption) | (with_reducible refine Below.trans ?_ (Below.mono (by assumption) (by first | omega | (simp; done) | (simp; omega) | (simp at *; omega))))))) hm)).mono ?_
  rintro e w1 ⟨rfl, hbw1⟩
  have z1 := hbw1.size
  try simp at z1
  have c1_0 : w1.cell? ⟨w.heap.size, 0, none⟩ = some (.int .i64 o) := by rw [(bcell hbw1).1 _ _ (by first | (simp; done) | (simp; omega) | omega)]; simp [go_sem, World.cell?_alloc_past, *]
  have c1_1 : w1.cell? ⟨w.heap.size, 1, none⟩ = some (.int .i64 h) := by rw [(bcell hbw1).1 _ _ (by first | (simp; done) | (simp; omega) | omega)]; simp [go_sem, World.cell?_alloc_past, *]
  have hB1 : Below w.heap.size w w1 := (by (repeat (first | (with_reducible refine Below.drew ?_) | (with_reducible refine below_drewN ?_ _) | (with_reducible refine Below.alloc ?_ (by first | omega | (simp; done) | (simp; omega) | (simp at *; omega)) _) | (with_reducible refine Below.setCell ?_ (by first | omega | (simp; done) | (simp; omega) | (simp at *; omega)) _) | (with_reducible exact Below.refl _ _) | (with_reducible assumption) | (with_reducible refine Below.trans ?_ (Below.mono (by assumption) (by first | omega | (simp; done) | (simp; omega) | (simp at *; omega)))))))
  have o1_0 : w.heap.size < w1.heap.size := by omega
  have n1_0 : w1.heap.size ≠ w.heap.size := by omega
  have t1_0_1 : w.heap.size < w1.heap.size + 1 := by omega
  have t1_0_2 : w.heap.size < w1.heap.size + 1 + 1 := by omega
  have t1_0_3 : w.heap.size < w1.heap.size + 1 + 1 + 1 := by omega
  have t1_0_4 : w.heap.size < w1.heap.size + 1 + 1 + 1 + 1 := by omega
  have t1_0_5 : w.heap.size < w1.heap.size + 1 + 1 + 1 + 1 + 1 := by omega
  have t1_0_6 : w.heap.size < w1.heap.size + 1 + 1 + 1 + 1 + 1 + 1 := by omega
  have t1_0_7 : w.heap.size < w1.heap.size + 1 + 1 + 1 + 1 + 1 + 1 + 1 := by omega
  have t1_0_8 : w.heap.size < w1.heap.size + 1 + 1 + 1 + 1 + 1 + 1 + 1 + 1 := by omega
  have b1 : w.heap.size ≤ w1.heap.size := by omega
  clear hbw1
  go_wp2_with fail
  refine (Density_bad o h p 2 _ hp (by decide)).mono ?_
  rintro e w2 ⟨rfl, hbw2⟩
  have z2 := hbw2.size
  try simp at z2
  have c2_0 : w2.cell? ⟨w.heap.size, 0, none⟩ = some (.int .i64 o) := by rw [(bcell hbw2).1 _ _ (by first | (simp; done) | (simp; omega) | omega)]; simp [go_sem, World.cell?_alloc_past, *]
  have c2_1 : w2.cell? ⟨w.heap.size, 1, none⟩ = some (.int .i64 h) := by rw [(bcell hbw2).1 _ _ (by first | (simp; done) | (simp; omega) | omega)]; simp [go_sem, World.cell?_alloc_past, *]
  have hB2 : Below w.heap.size w w2 := (by (repeat (first | (with_reducible refine Below.drew ?_) | (with_reducible refine below_drewN ?_ _) | (with_reducible refine Below.alloc ?_ (by first | omega | (simp; done) | (simp; omega) | (simp at *; omega)) _) | (with_reducible refine Below.setCell ?_ (by first | omega | (simp; done) | (simp; omega) | (simp at *; omega)) _) | (with_reducible exact Below.refl _ _) | (with_reducible assumption) | (with_reducible refine Below.trans ?_ (Below.mono (by assumption) (by first | omega | (simp; done) | (simp; omega) | (simp at *; omega)))))))
  clear c1_0 c1_1 o1_0 n1_0 t1_0_1 t1_0_2 t1_0_3 t1_0_4 t1_0_5 t1_0_6 t1_0_7 t1_0_8
  have o2_0 : w.heap.size < w2.heap.size := by omega
  have n2_0 : w2.heap.size ≠ w.heap.size := by omega
  have t2_0_1 : w.heap.size < w2.heap.size + 1 := by omega
  have t2_0_2 : w.heap.size < w2.heap.size + 1 + 1 := by omega
  have t2_0_3 : w.heap.size < w2.heap.size + 1 + 1 + 1 := by omega
  have t2_0_4 : w.heap.size < w2.heap.size + 1 + 1 + 1 + 1 := by omega
  have t2_0_5 : w.heap.size < w2.heap.size + 1 + 1 + 1 + 1 + 1 := by omega
  have t2_0_6 : w.heap.size < w2.heap.size + 1 + 1 + 1 + 1 + 1 + 1 := by omega
  have t2_0_7 : w.heap.size < w2.heap.size + 1 + 1 + 1 + 1 + 1 + 1 + 1 := by omega
  have t2_0_8 : w.heap.size < w2.heap.size + 1 + 1 + 1 + 1 + 1 + 1 + 1 + 1 := by omega
  have b2 : w.heap.size ≤ w2.heap.size := by omega
  clear hbw2
  go_wp2_with fail
  refine (WeightOf_ok o h n U V _ ha hU hV).mono ?_
  rintro e w3 ⟨rfl, hbw3⟩
  have z3 := hbw3.size
  try simp at z3
  have c3_0 : w3.cell? ⟨w.heap.size, 0, none⟩ = some (.int .i64 o) := by rw [(bcell hbw3).1 _ _ (by first | (simp; done) | (simp; omega) | omega)]; simp [go_sem, World.cell?_alloc_past, *]
  have c3_1 : w3.cell? ⟨w.heap.size, 1, none⟩ = some (.int .i64 h) := by rw [(bcell hbw3).1 _ _ (by first | (simp; done) | (simp; omega) | omega)]; simp [go_sem, World.cell?_alloc_past, *]
  have c3_2 : w3.cell? ⟨w2.heap.size, 0, none⟩ = some (.int .i64 0) := by rw [(bcell hbw3).1 _ _ (by first | (simp; done) | (simp; omega) | omega)]; simp [go_sem, World.cell?_alloc_past, *]
  have c3_3 : w3.cell? ⟨w2.heap.size, 1, none⟩ = some (.int .i64 0) := by rw [(bcell hbw3).1 _ _ (by first | (simp; done) | (simp; omega) | omega)]; simp [go_sem, World.cell?_alloc_past, *]
  have hB3 : Below w.heap.size w w3 := (by (repeat (first | (with_reducible refine Below.drew ?_) | (with_reducible refine below_drewN ?_ _) | (with_reducible refine Below.alloc ?_ (by first | omega | (simp; done) | (simp; omega) | (simp at *; omega)) _) | (with_reducible refine Below.setCell ?_ (by first | omega | (simp; done) | (simp; omega) | (simp at *; omega)) _) | (with_reducible exact Below.refl _ _) | (with_reducible assumption) | (with_reducible refine Below.trans ?_ (Below.mono (by assumption) (by first | omega | (simp; done) | (simp; omega) | (simp at *; omega)))))))
  clear c2_0 c2_1 o2_0 n2_0 t2_0_1 t2_0_2 t2_0_3 t2_0_4 t2_0_5 t2_0_6 t2_0_7 t2_0_8
  have o3_0 : w.heap.size < w3.heap.size := by omega
  have n3_0 : w3.heap.size ≠ w.heap.size := by omega
  have t3_0_1 : w.heap.size < w3.heap.size + 1 := by omega
  have t3_0_2 : w.heap.size < w3.heap.size + 1 + 1 := by omega
  have t3_0_3 : w.heap.size < w3.heap.size + 1 + 1 + 1 := by omega
  have t3_0_4 : w.heap.size < w3.heap.size + 1 + 1 + 1 + 1 := by omega
  have t3_0_5 : w.heap.size < w3.heap.size + 1 + 1 + 1 + 1 + 1 := by omega
  have t3_0_6 : w.heap.size < w3.heap.size + 1 + 1 + 1 + 1 + 1 + 1 := by omega
  have t3_0_7 : w.heap.size < w3.heap.size + 1 + 1 + 1 + 1 + 1 + 1 + 1 := by omega
  have t3_0_8 : w.heap.size < w3.heap.size + 1 + 1 + 1 + 1 + 1 + 1 + 1 + 1 := by omega
  have o3_1 : w2.heap.size < w3.heap.size := by omega
  have n3_1 : w3.heap.size ≠ w2.heap.size := by omega
  have t3_1_1 : w2.heap.size < w3.heap.size + 1 := by omega
  have t3_1_2 : w2.heap.size < w3.heap.size + 1 + 1 := by omega
  have t3_1_3 : w2.heap.size < w3.heap.size + 1 + 1 + 1 := by omega
  have t3_1_4 : w2.heap.size < w3.heap.size + 1 + 1 + 1 + 1 := by omega
  have t3_1_5 : w2.heap.size < w3.heap.size + 1 + 1 + 1 + 1 + 1 := by omega
  have t3_1_6 : w2.heap.size < w3.heap.size + 1 + 1 + 1 + 1 + 1 + 1 := by omega
  have t3_1_7 : w2.heap.size < w3.heap.size + 1 + 1 + 1 + 1 + 1 + 1 + 1 := by omega
  have t3_1_8 : w2.heap.size < w3.heap.size + 1 + 1 + 1 + 1 + 1 + 1 + 1 + 1 := by omega
  have b3 : w.heap.size ≤ w3.heap.size := by omega
  clear hbw3
  go_wp2_with (first | (go_at_call 20; ((with_reducible refine (refCheckGas_w _ _ 0 _ hg).mono ?_)); rintro e w' ⟨rfl, rfl⟩) | (go_at_call 27; ((with_reducible refine (IsPressure_w p false _ hip).mono ?_)); rintro e w' ⟨rfl, rfl⟩) | (go_at_call 34; ((with_reducible refine (baseWithin_b n _ _ true _ hin).mono ?_)); rintro e w' ⟨rfl, rfl⟩))
  go_big_quiet (fail)
  go_wp2
  go_region_held3 (fun w' => w'.cell? ⟨w.heap.size, 0, none⟩ = some (.int .i64 o) ∧ w'.cell? ⟨w.heap.size, 1, none⟩ = some (.int .i64 h) ∧ w'.cell? ⟨w3.heap.size, 0, none⟩ = some (.int .i64 U) ∧ w'.cell? ⟨w3.heap.size, 1, none⟩ = some (.int .i64 V)) (simp [go_sem, World.cell?_alloc_past, *])
    (first | (go_at_call 46; ((with_reducible refine (refDensity_ok o h n U V _ k1 k2 k3 k4 k7 k8 k9 hU hV).mono ?_)); rintro e wd ⟨rfl, hbwd⟩; have zd := hbwd.size; (try simp at zd); have d0 : wd.cell? ⟨w.heap.size, 0, none⟩ = some (.int .i64 o) := (by rw [(bcell hbwd).1 _ _ (by first | (simp; done) | (simp; omega) | omega)]; simp [go_sem, World.cell?_alloc_past, *]); have d1 : wd.cell? ⟨w.heap.size, 1, none⟩ = some (.int .i64 h) := (by rw [(bcell hbwd).1 _ _ (by first | (simp; done) | (simp; omega) | omega)]; simp [go_sem, World.cell?_alloc_past, *]); have d2 : wd.cell? ⟨w2.heap.size, 0, none⟩ = some (.int .i64 0) := (by rw [(bcell hbwd).1 _ _ (by first | (simp; done) | (simp; omega) | omega)]; simp [go_sem, World.cell?_alloc_past, *]); have d3 : wd.cell? ⟨w2.heap.size, 1, none⟩ = some (.int .i64 0) := (by rw [(bcell hbwd).1 _ _ (by first | (simp; done) | (simp; omega) | omega)]; simp [go_sem, World.cell?_alloc_past, *]); have d4 : wd.cell? ⟨w3.heap.size, 0, none⟩ = some (.int .i64 U) := (by rw [(bcell hbwd).1 _ _ (by first | (simp; done) | (simp; omega) | omega)]; simp [go_sem, World.cell?_alloc_past, *]); have d5 : wd.cell? ⟨w3.heap.size, 1, none⟩ = some (.int .i64 V) := (by rw [(bcell hbwd).1 _ _ (by first | (simp; done) | (simp; omega) | omega)]; simp [go_sem, World.cell?_alloc_past, *]); have dn0 : wd.heap.size ≠ w.heap.size := (by omega); have do0 : w.heap.size < wd.heap.size := (by omega); have dn1 : wd.heap.size ≠ w2.heap.size := (by omega); have do1 : w2.heap.size < wd.heap.size := (by omega); have dn2 : wd.heap.size ≠ w3.heap.size := (by omega); have do2 : w3.heap.size < wd.heap.size := (by omega)))
  all_goals
    go_wp2
    go_ret
    exact ⟨rfl, (by (repeat (first | (with_reducible refine Below.drew ?_) | (with_reducible refine below_drewN ?_ _) | (with_reducible refine Below.alloc ?_ (by first | omega | (simp; done) | (simp; omega) | (simp at *; omega)) _) | (with_reducible refine Below.setCell ?_ (by first | omega | (simp; done) | (simp; omega) | (simp at *; omega)) _) | (with_reducible exact Below.refl _ _) | (with_reducible assumption) | (with_reducible refine Below.trans ?_ (Below.mono (by assumption) (by first | omega | (simp; done) | (simp; omega) | (simp at *; omega)))))))⟩
set_option maxRecDepth 100000 in
set_option maxHeartbeats 4000000 in
theorem wlaw_kb (o h p n : Int) (w : World) (m : Int) (hm : w.cell? ⟨1, 0, none⟩ = some (.int .i64 m)) (hg : Hid (gasE o h = 0)) (k1 : 0 ≤ o) (k2 : o ≤ 1000) (k3 : 0 ≤ h) (k4 : h ≤ 1000) (k7 : o + h ≤ 1000) (hip : Hid (inB p 0 100000 = true)) (hp : Hid (paE o h p = 0)) (k5 : 0 ≤ p) (k6 : p ≤ 100000) (X Y : Int) (hX : Hid (wgt o h * p / 1013000 = X)) (hY : Hid ((wgt o h * p + 1013000 - 1) / 1013000 = Y)) (hin : Hid (inB n 0 1000000000 = false)) (ha : Hid (wtE o h n = 2)) :
    Calls Tryd.prog 11 #[.agg #[.int .i64 o, .int .i64 h], .int .i64 p, .int .i64 n] w fun e w' => e = .returned (.bool true) ∧ Below w.heap.size w w' := by
  have hl := World.block_lt_of_cell? _ _ hm
  have hne : w.heap.size ≠ 1 := by simp at hl; omega
  have hl2 : 1 < w.heap.size := by simpa using hl
  go_enter Tryd.func11, Tryd.ntmps11
  go_wp2_with fail
  refine (awake_any _ m (by exact oldCell (by (repeat (first | (with_reducible refine Below.drew ?_) | (with_reducible refine below_drewN ?_ _) | (with_reducible refine Below.alloc ?_ (by first | omega | (simp; done) | (simp; omega) | (simp at *; omega)) _) | (with_reducible refine Below.setCell ?_ (by first | omega | (simp; done) | (simp; omega) | (simp at *; omega)) _) | (with_reducible exact Below.refl _ _) | (with_reducible assumption) | (with_reducible refine Below.trans ?_ (Below.mono (by assumption) (by first | omega | (simp; done) | (simp; omega) | (simp at *; omega))))))) hm)).mono ?_
  rintro e w1 ⟨rfl, hbw1⟩
  have z1 := hbw1.size
  try simp at z1
  have c1_0 : w1.cell? ⟨w.heap.size, 0, none⟩ = some (.int .i64 o) := by rw [(bcell hbw1).1 _ _ (by first | (simp; done) | (simp; omega) | omega)]; simp [go_sem, World.cell?_alloc_past, *]
  have c1_1 : w1.cell? ⟨w.heap.size, 1, none⟩ = some (.int .i64 h) := by rw [(bcell hbw1).1 _ _ (by first | (simp; done) | (simp; omega) | omega)]; simp [go_sem, World.cell?_alloc_past, *]
  have hB1 : Below w.heap.size w w1 := (by (repeat (first | (with_reducible refine Below.drew ?_) | (with_reducible refine below_drewN ?_ _) | (with_reducible refine Below.alloc ?_ (by first | omega | (simp; done) | (simp; omega) | (simp at *; omega)) _) | (with_reducible refine Below.setCell ?_ (by first | omega | (simp; done) | (simp; omega) | (simp at *; omega)) _) | (with_reducible exact Below.refl _ _) | (with_reducible assumption) | (with_reducible refine Below.trans ?_ (Below.mono (by assumption) (by first | omega | (simp; done) | (simp; omega) | (simp at *; omega)))))))
  have o1_0 : w.heap.size < w1.heap.size := by omega
  have n1_0 : w1.heap.size ≠ w.heap.size := by omega
  have t1_0_1 : w.heap.size < w1.heap.size + 1 := by omega
  have t1_0_2 : w.heap.size < w1.heap.size + 1 + 1 := by omega
  have t1_0_3 : w.heap.size < w1.heap.size + 1 + 1 + 1 := by omega
  have t1_0_4 : w.heap.size < w1.heap.size + 1 + 1 + 1 + 1 := by omega
  have t1_0_5 : w.heap.size < w1.heap.size + 1 + 1 + 1 + 1 + 1 := by omega
  have t1_0_6 : w.heap.size < w1.heap.size + 1 + 1 + 1 + 1 + 1 + 1 := by omega
  have t1_0_7 : w.heap.size < w1.heap.size + 1 + 1 + 1 + 1 + 1 + 1 + 1 := by omega
  have t1_0_8 : w.heap.size < w1.heap.size + 1 + 1 + 1 + 1 + 1 + 1 + 1 + 1 := by omega
  have b1 : w.heap.size ≤ w1.heap.size := by omega
  clear hbw1
  go_wp2_with fail
  refine (Density_ok o h p X Y _ hp hX hY).mono ?_
  rintro e w2 ⟨rfl, hbw2⟩
  have z2 := hbw2.size
  try simp at z2
  have c2_0 : w2.cell? ⟨w.heap.size, 0, none⟩ = some (.int .i64 o) := by rw [(bcell hbw2).1 _ _ (by first | (simp; done) | (simp; omega) | omega)]; simp [go_sem, World.cell?_alloc_past, *]
  have c2_1 : w2.cell? ⟨w.heap.size, 1, none⟩ = some (.int .i64 h) := by rw [(bcell hbw2).1 _ _ (by first | (simp; done) | (simp; omega) | omega)]; simp [go_sem, World.cell?_alloc_past, *]
  have hB2 : Below w.heap.size w w2 := (by (repeat (first | (with_reducible refine Below.drew ?_) | (with_reducible refine below_drewN ?_ _) | (with_reducible refine Below.alloc ?_ (by first | omega | (simp; done) | (simp; omega) | (simp at *; omega)) _) | (with_reducible refine Below.setCell ?_ (by first | omega | (simp; done) | (simp; omega) | (simp at *; omega)) _) | (with_reducible exact Below.refl _ _) | (with_reducible assumption) | (with_reducible refine Below.trans ?_ (Below.mono (by assumption) (by first | omega | (simp; done) | (simp; omega) | (simp at *; omega)))))))
  clear c1_0 c1_1 o1_0 n1_0 t1_0_1 t1_0_2 t1_0_3 t1_0_4 t1_0_5 t1_0_6 t1_0_7 t1_0_8
  have o2_0 : w.heap.size < w2.heap.size := by omega
  have n2_0 : w2.heap.size ≠ w.heap.size := by omega
  have t2_0_1 : w.heap.size < w2.heap.size + 1 := by omega
  have t2_0_2 : w.heap.size < w2.heap.size + 1 + 1 := by omega
  have t2_0_3 : w.heap.size < w2.heap.size + 1 + 1 + 1 := by omega
  have t2_0_4 : w.heap.size < w2.heap.size + 1 + 1 + 1 + 1 := by omega
  have t2_0_5 : w.heap.size < w2.heap.size + 1 + 1 + 1 + 1 + 1 := by omega
  have t2_0_6 : w.heap.size < w2.heap.size + 1 + 1 + 1 + 1 + 1 + 1 := by omega
  have t2_0_7 : w.heap.size < w2.heap.size + 1 + 1 + 1 + 1 + 1 + 1 + 1 := by omega
  have t2_0_8 : w.heap.size < w2.heap.size + 1 + 1 + 1 + 1 + 1 + 1 + 1 + 1 := by omega
  have b2 : w.heap.size ≤ w2.heap.size := by omega
  clear hbw2
  go_wp2_with fail
  refine (WeightOf_bad o h n 2 _ ha (by decide)).mono ?_
  rintro e w3 ⟨rfl, hbw3⟩
  have z3 := hbw3.size
  try simp at z3
  have c3_0 : w3.cell? ⟨w.heap.size, 0, none⟩ = some (.int .i64 o) := by rw [(bcell hbw3).1 _ _ (by first | (simp; done) | (simp; omega) | omega)]; simp [go_sem, World.cell?_alloc_past, *]
  have c3_1 : w3.cell? ⟨w.heap.size, 1, none⟩ = some (.int .i64 h) := by rw [(bcell hbw3).1 _ _ (by first | (simp; done) | (simp; omega) | omega)]; simp [go_sem, World.cell?_alloc_past, *]
  have c3_2 : w3.cell? ⟨w2.heap.size, 0, none⟩ = some (.int .i64 X) := by rw [(bcell hbw3).1 _ _ (by first | (simp; done) | (simp; omega) | omega)]; simp [go_sem, World.cell?_alloc_past, *]
  have c3_3 : w3.cell? ⟨w2.heap.size, 1, none⟩ = some (.int .i64 Y) := by rw [(bcell hbw3).1 _ _ (by first | (simp; done) | (simp; omega) | omega)]; simp [go_sem, World.cell?_alloc_past, *]
  have hB3 : Below w.heap.size w w3 := (by (repeat (first | (with_reducible refine Below.drew ?_) | (with_reducible refine below_drewN ?_ _) | (with_reducible refine Below.alloc ?_ (by first | omega | (simp; done) | (simp; omega) | (simp at *; omega)) _) | (with_reducible refine Below.setCell ?_ (by first | omega | (simp; done) | (simp; omega) | (simp at *; omega)) _) | (with_reducible exact Below.refl _ _) | (with_reducible assumption) | (with_reducible refine Below.trans ?_ (Below.mono (by assumption) (by first | omega | (simp; done) | (simp; omega) | (simp at *; omega)))))))
  clear c2_0 c2_1 o2_0 n2_0 t2_0_1 t2_0_2 t2_0_3 t2_0_4 t2_0_5 t2_0_6 t2_0_7 t2_0_8
  have o3_0 : w.heap.size < w3.heap.size := by omega
  have n3_0 : w3.heap.size ≠ w.heap.size := by omega
  have t3_0_1 : w.heap.size < w3.heap.size + 1 := by omega
  have t3_0_2 : w.heap.size < w3.heap.size + 1 + 1 := by omega
  have t3_0_3 : w.heap.size < w3.heap.size + 1 + 1 + 1 := by omega
  have t3_0_4 : w.heap.size < w3.heap.size + 1 + 1 + 1 + 1 := by omega
  have t3_0_5 : w.heap.size < w3.heap.size + 1 + 1 + 1 + 1 + 1 := by omega
  have t3_0_6 : w.heap.size < w3.heap.size + 1 + 1 + 1 + 1 + 1 + 1 := by omega
  have t3_0_7 : w.heap.size < w3.heap.size + 1 + 1 + 1 + 1 + 1 + 1 + 1 := by omega
  have t3_0_8 : w.heap.size < w3.heap.size + 1 + 1 + 1 + 1 + 1 + 1 + 1 + 1 := by omega
  have o3_1 : w2.heap.size < w3.heap.size := by omega
  have n3_1 : w3.heap.size ≠ w2.heap.size := by omega
  have t3_1_1 : w2.heap.size < w3.heap.size + 1 := by omega
  have t3_1_2 : w2.heap.size < w3.heap.size + 1 + 1 := by omega
  have t3_1_3 : w2.heap.size < w3.heap.size + 1 + 1 + 1 := by omega
  have t3_1_4 : w2.heap.size < w3.heap.size + 1 + 1 + 1 + 1 := by omega
  have t3_1_5 : w2.heap.size < w3.heap.size + 1 + 1 + 1 + 1 + 1 := by omega
  have t3_1_6 : w2.heap.size < w3.heap.size + 1 + 1 + 1 + 1 + 1 + 1 := by omega
  have t3_1_7 : w2.heap.size < w3.heap.size + 1 + 1 + 1 + 1 + 1 + 1 + 1 := by omega
  have t3_1_8 : w2.heap.size < w3.heap.size + 1 + 1 + 1 + 1 + 1 + 1 + 1 + 1 := by omega
  have b3 : w.heap.size ≤ w3.heap.size := by omega
  clear hbw3
  go_wp2_with (first | (go_at_call 20; ((with_reducible refine (refCheckGas_w _ _ 0 _ hg).mono ?_)); rintro e w' ⟨rfl, rfl⟩) | (go_at_call 27; ((with_reducible refine (IsPressure_w p true _ hip).mono ?_)); rintro e w' ⟨rfl, rfl⟩) | (go_at_call 34; ((with_reducible refine (baseWithin_b n _ _ false _ hin).mono ?_)); rintro e w' ⟨rfl, rfl⟩))
  go_upto_region 11 with (fail)
  go_cut [70] from 13 (fun s70 wx => s70 = .bool false ∧ Below w.heap.size w wx ∧ w3.heap.size + 2 ≤ wx.heap.size ∧ wx.cell? ⟨w.heap.size, 0, none⟩ = some (.int .i64 o) ∧ wx.cell? ⟨w.heap.size, 1, none⟩ = some (.int .i64 h) ∧ wx.cell? ⟨w2.heap.size, 0, none⟩ = some (.int .i64 X) ∧ wx.cell? ⟨w2.heap.size, 1, none⟩ = some (.int .i64 Y) ∧ wx.cell? ⟨w3.heap.size, 0, none⟩ = some (.int .i64 0) ∧ wx.cell? ⟨w3.heap.size, 1, none⟩ = some (.int .i64 0))
  case first =>
    refine wp_region_held_drew (S := (fun w' => w'.cell? ⟨w.heap.size, 0, none⟩ = some (.int .i64 o) ∧ w'.cell? ⟨w.heap.size, 1, none⟩ = some (.int .i64 h) ∧ w'.cell? ⟨w2.heap.size, 0, none⟩ = some (.int .i64 X) ∧ w'.cell? ⟨w2.heap.size, 1, none⟩ = some (.int .i64 Y) ∧ w'.cell? ⟨w3.heap.size, 0, none⟩ = some (.int .i64 0) ∧ w'.cell? ⟨w3.heap.size, 1, none⟩ = some (.int .i64 0))) (by kernel_rfl) (by simp [go_sem, World.cell?_alloc_past, *]) (fun hHeld => ?_)
    refine wpAnyH_take (i := 0) (oi := ⟨some 44, _, _, _, _, _⟩) (v := ?_) rfl (by kernel_rfl) (by kernel_rfl) (by kernel_rfl) (fun _ _ _ h => h) (Or.inl ⟨by kernel_rfl, ?_⟩) (by assumption) ?_
    rotate_left
    · (intro w hSw; (try dsimp only at hSw); go_simp; all_goals with_reducible rfl)
    try simp only [Act.put, List.setIfInBounds_toArray, List.set_cons_zero, List.set_cons_succ]
    refine wpAnyH_take (i := 1) (oi := ⟨some 45, _, _, _, _, _⟩) (v := ?_) rfl (by kernel_rfl) (by kernel_rfl) (by kernel_rfl) (fun _ _ _ h => h) (Or.inl ⟨by kernel_rfl, ?_⟩) (by assumption) ?_
    rotate_left
    · (intro w hSw; (try dsimp only at hSw); go_simp; all_goals with_reducible rfl)
    try simp only [Act.put, List.setIfInBounds_toArray, List.set_cons_zero, List.set_cons_succ]
    refine wpAnyH_take (i := 2) (oi := ⟨some 46, _, _, _, _, _⟩) (v := ?_) rfl (by kernel_rfl) (by kernel_rfl) (by kernel_rfl) (fun _ _ _ h => h) (Or.inl ⟨by kernel_rfl, ?_⟩) (by assumption) ?_
    rotate_left
    · (intro w hSw; (try dsimp only at hSw); go_simp; all_goals with_reducible rfl)
    try simp only [Act.put, List.setIfInBounds_toArray, List.set_cons_zero, List.set_cons_succ]
    refine wpAnyH_take (i := 3) (oi := ⟨some 47, _, _, _, _, _⟩) (v := undef) rfl (by kernel_rfl) (by kernel_rfl) (by kernel_rfl) (fun _ _ _ h => h) (Or.inr ⟨by kernel_rfl, rfl⟩) (by assumption) ?_
    try simp only [Act.put, List.setIfInBounds_toArray, List.set_cons_zero, List.set_cons_succ]
    refine wpAnyH_take (i := 4) (oi := ⟨some 48, _, _, _, _, _⟩) (v := undef) rfl (by kernel_rfl) (by kernel_rfl) (by kernel_rfl) (fun _ _ _ h => h) (Or.inr ⟨by kernel_rfl, rfl⟩) (by assumption) ?_
    try simp only [Act.put, List.setIfInBounds_toArray, List.set_cons_zero, List.set_cons_succ]
    refine wpAnyH_take (i := 5) (oi := ⟨some 49, _, _, _, _, _⟩) (v := undef) rfl (by kernel_rfl) (by kernel_rfl) (by kernel_rfl) (fun _ _ _ h => h) (Or.inr ⟨by kernel_rfl, rfl⟩) (by assumption) ?_
    try simp only [Act.put, List.setIfInBounds_toArray, List.set_cons_zero, List.set_cons_succ]
    refine wpAnyH_take (i := 6) (oi := ⟨some 50, _, _, _, _, _⟩) (v := undef) rfl (by kernel_rfl) (by kernel_rfl) (by kernel_rfl) (fun _ _ _ h => h) (Or.inr ⟨by kernel_rfl, rfl⟩) (by assumption) ?_
    try simp only [Act.put, List.setIfInBounds_toArray, List.set_cons_zero, List.set_cons_succ]
    refine wpAnyH_take (i := 7) (oi := ⟨some 51, _, _, _, _, _⟩) (v := undef) rfl (by kernel_rfl) (by kernel_rfl) (by kernel_rfl) (fun _ _ _ h => h) (Or.inr ⟨by kernel_rfl, rfl⟩) (by assumption) ?_
    try simp only [Act.put, List.setIfInBounds_toArray, List.set_cons_zero, List.set_cons_succ]
    refine wpAnyH_take (i := 8) (oi := ⟨some 52, _, _, _, _, _⟩) (v := undef) rfl (by kernel_rfl) (by kernel_rfl) (by kernel_rfl) (fun _ _ _ h => h) (Or.inr ⟨by kernel_rfl, rfl⟩) (by assumption) ?_
    try simp only [Act.put, List.setIfInBounds_toArray, List.set_cons_zero, List.set_cons_succ]
    refine wpAnyH_take (i := 9) (oi := ⟨some 53, _, _, _, _, _⟩) (v := undef) rfl (by kernel_rfl) (by kernel_rfl) (by kernel_rfl) (fun _ _ _ h => h) (Or.inr ⟨by kernel_rfl, rfl⟩) (by assumption) ?_
    try simp only [Act.put, List.setIfInBounds_toArray, List.set_cons_zero, List.set_cons_succ]
    refine wpAnyH_take (i := 10) (oi := ⟨some 54, _, _, _, _, _⟩) (v := undef) rfl (by kernel_rfl) (by kernel_rfl) (by kernel_rfl) (fun _ _ _ h => h) (Or.inr ⟨by kernel_rfl, rfl⟩) (by assumption) ?_
    try simp only [Act.put, List.setIfInBounds_toArray, List.set_cons_zero, List.set_cons_succ]
    refine wpAnyH_take (i := 11) (oi := ⟨some 55, _, _, _, _, _⟩) (v := ?_) rfl (by kernel_rfl) (by kernel_rfl) (by kernel_rfl) (fun _ _ _ h => h) (Or.inl ⟨by kernel_rfl, ?_⟩) (by assumption) ?_
    rotate_left
    · (intro w hSw; (try dsimp only at hSw); go_simp; all_goals with_reducible rfl)
    try simp only [Act.put, List.setIfInBounds_toArray, List.set_cons_zero, List.set_cons_succ]
    refine wpAnyH_take (i := 12) (oi := ⟨some 56, _, _, _, _, _⟩) (v := ?_) rfl (by kernel_rfl) (by kernel_rfl) (by kernel_rfl) (fun _ _ _ h => h) (Or.inl ⟨by kernel_rfl, ?_⟩) (by assumption) ?_
    rotate_left
    · (intro w hSw; (try dsimp only at hSw); go_simp; all_goals with_reducible rfl)
    try simp only [Act.put, List.setIfInBounds_toArray, List.set_cons_zero, List.set_cons_succ]
    refine wpAnyH_take (i := 13) (oi := ⟨some 57, _, _, _, _, _⟩) (v := ?_) rfl (by kernel_rfl) (by kernel_rfl) (by kernel_rfl) (fun _ _ _ h => h) (Or.inl ⟨by kernel_rfl, ?_⟩) (by assumption) ?_
    rotate_left
    · (intro w hSw; (try dsimp only at hSw); go_simp; all_goals with_reducible rfl)
    try simp only [Act.put, List.setIfInBounds_toArray, List.set_cons_zero, List.set_cons_succ]
    refine wpAnyH_take (i := 14) (oi := ⟨some 58, _, _, _, _, _⟩) (v := ?_) rfl (by kernel_rfl) (by kernel_rfl) (by kernel_rfl) (fun _ _ _ h => h) (Or.inl ⟨by kernel_rfl, ?_⟩) (by assumption) ?_
    rotate_left
    · (intro w hSw; (try dsimp only at hSw); go_simp; all_goals with_reducible rfl)
    try simp only [Act.put, List.setIfInBounds_toArray, List.set_cons_zero, List.set_cons_succ]
    refine wpAnyH_take (i := 15) (oi := ⟨some 59, _, _, _, _, _⟩) (v := ?_) rfl (by kernel_rfl) (by kernel_rfl) (by kernel_rfl) (fun _ _ _ h => h) (Or.inl ⟨by kernel_rfl, ?_⟩) (by assumption) ?_
    rotate_left
    · (intro w hSw; (try dsimp only at hSw); go_simp; all_goals with_reducible rfl)
    try simp only [Act.put, List.setIfInBounds_toArray, List.set_cons_zero, List.set_cons_succ]
    refine wpAnyH_take (i := 16) (oi := ⟨some 60, _, _, _, _, _⟩) (v := ?_) rfl (by kernel_rfl) (by kernel_rfl) (by kernel_rfl) (fun _ _ _ h => h) (Or.inl ⟨by kernel_rfl, ?_⟩) (by assumption) ?_
    rotate_left
    · (intro w hSw; (try dsimp only at hSw); go_simp; all_goals with_reducible rfl)
    try simp only [Act.put, List.setIfInBounds_toArray, List.set_cons_zero, List.set_cons_succ]
    refine wpAnyH_take (i := 17) (oi := ⟨some 61, _, _, _, _, _⟩) (v := ?_) rfl (by kernel_rfl) (by kernel_rfl) (by kernel_rfl) (fun _ _ _ h => h) (Or.inl ⟨by kernel_rfl, ?_⟩) (by assumption) ?_
    rotate_left
    · (intro w hSw; (try dsimp only at hSw); go_simp; all_goals with_reducible rfl)
    try simp only [Act.put, List.setIfInBounds_toArray, List.set_cons_zero, List.set_cons_succ]
    refine wpAnyH_take (i := 18) (oi := ⟨some 62, _, _, _, _, _⟩) (v := ?_) rfl (by kernel_rfl) (by kernel_rfl) (by kernel_rfl) (fun _ _ _ h => h) (Or.inl ⟨by kernel_rfl, ?_⟩) (by assumption) ?_
    rotate_left
    · (intro w hSw; (try dsimp only at hSw); go_simp; all_goals with_reducible rfl)
    try simp only [Act.put, List.setIfInBounds_toArray, List.set_cons_zero, List.set_cons_succ]
    refine wpAnyH_take (i := 19) (oi := ⟨some 63, _, _, _, _, _⟩) (v := ?_) rfl (by kernel_rfl) (by kernel_rfl) (by kernel_rfl) (fun _ _ _ h => h) (Or.inl ⟨by kernel_rfl, ?_⟩) (by assumption) ?_
    rotate_left
    · (intro w hSw; (try dsimp only at hSw); go_simp; all_goals with_reducible rfl)
    try simp only [Act.put, List.setIfInBounds_toArray, List.set_cons_zero, List.set_cons_succ]
    refine wpAnyH_take (i := 20) (oi := ⟨some 64, _, _, _, _, _⟩) (v := ?_) rfl (by kernel_rfl) (by kernel_rfl) (by kernel_rfl) (fun _ _ _ h => h) (Or.inl ⟨by kernel_rfl, ?_⟩) (by assumption) ?_
    rotate_left
    · (intro w hSw; (try dsimp only at hSw); go_simp; all_goals with_reducible rfl)
    try simp only [Act.put, List.setIfInBounds_toArray, List.set_cons_zero, List.set_cons_succ]
    refine wpAnyH_take (i := 21) (oi := ⟨some 65, _, _, _, _, _⟩) (v := ?_) rfl (by kernel_rfl) (by kernel_rfl) (by kernel_rfl) (fun _ _ _ h => h) (Or.inl ⟨by kernel_rfl, ?_⟩) (by assumption) ?_
    rotate_left
    · (intro w hSw; (try dsimp only at hSw); go_simp; all_goals with_reducible rfl)
    try simp only [Act.put, List.setIfInBounds_toArray, List.set_cons_zero, List.set_cons_succ]
    refine wpAnyH_ready (rs := [22]) (by kernel_rfl) (by simp) ?_
    refine AllReadyH.cons rfl (fun K hK => ?_) AllReadyH.nil
    go_simp
    go_at_call 46
    ((with_reducible refine (refDensity_ok o h p X Y _ k1 k2 k3 k4 k7 k5 (by omega) hX hY).mono ?_))
    rintro e wd ⟨rfl, hbwd⟩
    have zd := hbwd.size
    (try simp at zd)
    have d0 : wd.cell? ⟨w.heap.size, 0, none⟩ = some (.int .i64 o) := (by rw [(bcell hbwd).1 _ _ (by first | (simp; done) | (simp; omega) | omega)]; simp [go_sem, World.cell?_alloc_past, *])
    have d1 : wd.cell? ⟨w.heap.size, 1, none⟩ = some (.int .i64 h) := (by rw [(bcell hbwd).1 _ _ (by first | (simp; done) | (simp; omega) | omega)]; simp [go_sem, World.cell?_alloc_past, *])
    have d2 : wd.cell? ⟨w2.heap.size, 0, none⟩ = some (.int .i64 X) := (by rw [(bcell hbwd).1 _ _ (by first | (simp; done) | (simp; omega) | omega)]; simp [go_sem, World.cell?_alloc_past, *])
    have d3 : wd.cell? ⟨w2.heap.size, 1, none⟩ = some (.int .i64 Y) := (by rw [(bcell hbwd).1 _ _ (by first | (simp; done) | (simp; omega) | omega)]; simp [go_sem, World.cell?_alloc_past, *])
    have d4 : wd.cell? ⟨w3.heap.size, 0, none⟩ = some (.int .i64 0) := (by rw [(bcell hbwd).1 _ _ (by first | (simp; done) | (simp; omega) | omega)]; simp [go_sem, World.cell?_alloc_past, *])
    have d5 : wd.cell? ⟨w3.heap.size, 1, none⟩ = some (.int .i64 0) := (by rw [(bcell hbwd).1 _ _ (by first | (simp; done) | (simp; omega) | omega)]; simp [go_sem, World.cell?_alloc_past, *])
    have dn0 : wd.heap.size ≠ w.heap.size := (by omega)
    have do0 : w.heap.size < wd.heap.size := (by omega)
    have dn1 : wd.heap.size ≠ w2.heap.size := (by omega)
    have do1 : w2.heap.size < wd.heap.size := (by omega)
    have dn2 : wd.heap.size ≠ w3.heap.size := (by omega)
    have do2 : w3.heap.size < wd.heap.size := (by omega)
    go_wp2_with fail
    refine hK.out _ _ (by simp [go_sem, World.cell?_alloc_past, *]) (fun hHeld => ?_)
    clear hK K
    try simp only [Act.put, List.setIfInBounds_toArray, List.set_cons_zero, List.set_cons_succ]
    refine wpAnyH_take (i := 23) (oi := ⟨some 67, _, _, _, _, _⟩) (v := ?_) rfl (by kernel_rfl) (by kernel_rfl) (by kernel_rfl) (fun _ _ _ h => h) (Or.inl ⟨by kernel_rfl, ?_⟩) (by assumption) ?_
    rotate_left
    · (intro w hSw; (try dsimp only at hSw); go_simp; all_goals with_reducible rfl)
    try simp only [Act.put, List.setIfInBounds_toArray, List.set_cons_zero, List.set_cons_succ]
    refine wpAnyH_take (i := 24) (oi := ⟨some 68, _, _, _, _, _⟩) (v := ?_) rfl (by kernel_rfl) (by kernel_rfl) (by kernel_rfl) (fun _ _ _ h => h) (Or.inl ⟨by kernel_rfl, ?_⟩) (by assumption) ?_
    rotate_left
    · (intro w hSw; (try dsimp only at hSw); go_simp; all_goals with_reducible rfl)
    try simp only [Act.put, List.setIfInBounds_toArray, List.set_cons_zero, List.set_cons_succ]
    refine wpAnyH_take (i := 25) (oi := ⟨some 69, _, _, _, _, _⟩) (v := ?_) rfl (by kernel_rfl) (by kernel_rfl) (by kernel_rfl) (fun _ _ _ h => h) (Or.inl ⟨by kernel_rfl, ?_⟩) (by assumption) ?_
    rotate_left
    · (intro w hSw; (try dsimp only at hSw); go_simp; all_goals with_reducible rfl)
    try simp only [Act.put, List.setIfInBounds_toArray, List.set_cons_zero, List.set_cons_succ]
    refine wpAnyH_take (i := 26) (oi := ⟨some 70, _, _, _, _, _⟩) (v := ?_) rfl (by kernel_rfl) (by kernel_rfl) (by kernel_rfl) (fun _ _ _ h => h) (Or.inl ⟨by kernel_rfl, ?_⟩) (by assumption) ?_
    rotate_left
    · (intro w hSw; (try dsimp only at hSw); go_simp; all_goals with_reducible rfl)
    try simp only [Act.put, List.setIfInBounds_toArray, List.set_cons_zero, List.set_cons_succ]
    refine wpAnyH_done (by kernel_rfl) ?_ _
    all_goals (go_wp2_with fail; go_meet; exact ⟨rfl, (by (repeat (first | (with_reducible refine Below.drew ?_) | (with_reducible refine below_drewN ?_ _) | (with_reducible refine Below.alloc ?_ (by first | omega | (simp; done) | (simp; omega) | (simp at *; omega)) _) | (with_reducible refine Below.setCell ?_ (by first | omega | (simp; done) | (simp; omega) | (simp at *; omega)) _) | (with_reducible exact Below.refl _ _) | (with_reducible assumption) | (with_reducible refine Below.trans ?_ (Below.mono (by assumption) (by first | omega | (simp; done) | (simp; omega) | (simp at *; omega))))))), (by first | (simp; done) | (simp; omega) | omega), (by simp [go_sem, World.cell?_alloc_past, *]), (by simp [go_sem, World.cell?_alloc_past, *]), (by simp [go_sem, World.cell?_alloc_past, *]), (by simp [go_sem, World.cell?_alloc_past, *]), (by simp [go_sem, World.cell?_alloc_past, *]), (by simp [go_sem, World.cell?_alloc_past, *])⟩)
  case rest =>
    obtain ⟨rfl, hB4, z4, c4_0, c4_1, c4_2, c4_3, c4_4, c4_5⟩ := hcut
    clear c3_0 c3_1 c3_2 c3_3 o3_0 n3_0 t3_0_1 t3_0_2 t3_0_3 t3_0_4 t3_0_5 t3_0_6 t3_0_7 t3_0_8 o3_1 n3_1 t3_1_1 t3_1_2 t3_1_3 t3_1_4 t3_1_5 t3_1_6 t3_1_7 t3_1_8
    have o4_0 : w.heap.size < wc.heap.size := by omega
    have n4_0 : wc.heap.size ≠ w.heap.size := by omega
    have t4_0_1 : w.heap.size < wc.heap.size + 1 := by omega
    have t4_0_2 : w.heap.size < wc.heap.size + 1 + 1 := by omega
    have t4_0_3 : w.heap.size < wc.heap.size + 1 + 1 + 1 := by omega
    have t4_0_4 : w.heap.size < wc.heap.size + 1 + 1 + 1 + 1 := by omega
    have t4_0_5 : w.heap.size < wc.heap.size + 1 + 1 + 1 + 1 + 1 := by omega
    have t4_0_6 : w.heap.size < wc.heap.size + 1 + 1 + 1 + 1 + 1 + 1 := by omega
    have t4_0_7 : w.heap.size < wc.heap.size + 1 + 1 + 1 + 1 + 1 + 1 + 1 := by omega
    have t4_0_8 : w.heap.size < wc.heap.size + 1 + 1 + 1 + 1 + 1 + 1 + 1 + 1 := by omega
    have o4_1 : w2.heap.size < wc.heap.size := by omega
    have n4_1 : wc.heap.size ≠ w2.heap.size := by omega
    have t4_1_1 : w2.heap.size < wc.heap.size + 1 := by omega
    have t4_1_2 : w2.heap.size < wc.heap.size + 1 + 1 := by omega
    have t4_1_3 : w2.heap.size < wc.heap.size + 1 + 1 + 1 := by omega
    have t4_1_4 : w2.heap.size < wc.heap.size + 1 + 1 + 1 + 1 := by omega
    have t4_1_5 : w2.heap.size < wc.heap.size + 1 + 1 + 1 + 1 + 1 := by omega
    have t4_1_6 : w2.heap.size < wc.heap.size + 1 + 1 + 1 + 1 + 1 + 1 := by omega
    have t4_1_7 : w2.heap.size < wc.heap.size + 1 + 1 + 1 + 1 + 1 + 1 + 1 := by omega
    have t4_1_8 : w2.heap.size < wc.heap.size + 1 + 1 + 1 + 1 + 1 + 1 + 1 + 1 := by omega
    have o4_2 : w3.heap.size < wc.heap.size := by omega
    have n4_2 : wc.heap.size ≠ w3.heap.size := by omega
    have t4_2_1 : w3.heap.size < wc.heap.size + 1 := by omega
    have t4_2_2 : w3.heap.size < wc.heap.size + 1 + 1 := by omega
    have t4_2_3 : w3.heap.size < wc.heap.size + 1 + 1 + 1 := by omega
    have t4_2_4 : w3.heap.size < wc.heap.size + 1 + 1 + 1 + 1 := by omega
    have t4_2_5 : w3.heap.size < wc.heap.size + 1 + 1 + 1 + 1 + 1 := by omega
    have t4_2_6 : w3.heap.size < wc.heap.size + 1 + 1 + 1 + 1 + 1 + 1 := by omega
    have t4_2_7 : w3.heap.size < wc.heap.size + 1 + 1 + 1 + 1 + 1 + 1 + 1 := by omega
    have t4_2_8 : w3.heap.size < wc.heap.size + 1 + 1 + 1 + 1 + 1 + 1 + 1 + 1 := by omega
    have o4_3 : w3.heap.size + 1 < wc.heap.size := by omega
    have n4_3 : wc.heap.size ≠ w3.heap.size + 1 := by omega
    have t4_3_1 : w3.heap.size + 1 < wc.heap.size + 1 := by omega
    have t4_3_2 : w3.heap.size + 1 < wc.heap.size + 1 + 1 := by omega
    have t4_3_3 : w3.heap.size + 1 < wc.heap.size + 1 + 1 + 1 := by omega
    have t4_3_4 : w3.heap.size + 1 < wc.heap.size + 1 + 1 + 1 + 1 := by omega
    have t4_3_5 : w3.heap.size + 1 < wc.heap.size + 1 + 1 + 1 + 1 + 1 := by omega
    have t4_3_6 : w3.heap.size + 1 < wc.heap.size + 1 + 1 + 1 + 1 + 1 + 1 := by omega
    have t4_3_7 : w3.heap.size + 1 < wc.heap.size + 1 + 1 + 1 + 1 + 1 + 1 + 1 := by omega
    have t4_3_8 : w3.heap.size + 1 < wc.heap.size + 1 + 1 + 1 + 1 + 1 + 1 + 1 + 1 := by omega
    have b4 : w.heap.size ≤ wc.heap.size := by omega
    go_wp2
    go_ret
    exact ⟨rfl, (by (repeat (first | (with_reducible refine Below.drew ?_) | (with_reducible refine below_drewN ?_ _) | (with_reducible refine Below.alloc ?_ (by first | omega | (simp; done) | (simp; omega) | (simp at *; omega)) _) | (with_reducible refine Below.setCell ?_ (by first | omega | (simp; done) | (simp; omega) | (simp at *; omega)) _) | (with_reducible exact Below.refl _ _) | (with_reducible assumption) | (with_reducible refine Below.trans ?_ (Below.mono (by assumption) (by first | omega | (simp; done) | (simp; omega) | (simp at *; omega)))))))⟩
set_option maxRecDepth 100000 in
set_option maxHeartbeats 4000000 in
theorem wlaw_kk (o h p n : Int) (w : World) (m : Int) (hm : w.cell? ⟨1, 0, none⟩ = some (.int .i64 m)) (hg : Hid (gasE o h = 0)) (k1 : 0 ≤ o) (k2 : o ≤ 1000) (k3 : 0 ≤ h) (k4 : h ≤ 1000) (k7 : o + h ≤ 1000) (hip : Hid (inB p 0 100000 = true)) (hp : Hid (paE o h p = 0)) (k5 : 0 ≤ p) (k6 : p ≤ 100000) (X Y : Int) (hX : Hid (wgt o h * p / 1013000 = X)) (hY : Hid ((wgt o h * p + 1013000 - 1) / 1013000 = Y)) (hin : Hid (inB n 0 1000000000 = true)) (ha : Hid (wtE o h n = 0)) (k8 : 0 ≤ n) (k9 : n ≤ 1000000000) (U V : Int) (hU : Hid (wgt o h * n / 1013000 = U)) (hV : Hid ((wgt o h * n + 1013000 - 1) / 1013000 = V)) :
    Calls Tryd.prog 11 #[.agg #[.int .i64 o, .int .i64 h], .int .i64 p, .int .i64 n] w fun e w' => e = .returned (.bool true) ∧ Below w.heap.size w w' := by
  have hl := World.block_lt_of_cell? _ _ hm
  have hne : w.heap.size ≠ 1 := by simp at hl; omega
  have hl2 : 1 < w.heap.size := by simpa using hl
  go_enter Tryd.func11, Tryd.ntmps11
  go_wp2_with fail
  refine (awake_any _ m (by exact oldCell (by (repeat (first | (with_reducible refine Below.drew ?_) | (with_reducible refine below_drewN ?_ _) | (with_reducible refine Below.alloc ?_ (by first | omega | (simp; done) | (simp; omega) | (simp at *; omega)) _) | (with_reducible refine Below.setCell ?_ (by first | omega | (simp; done) | (simp; omega) | (simp at *; omega)) _) | (with_reducible exact Below.refl _ _) | (with_reducible assumption) | (with_reducible refine Below.trans ?_ (Below.mono (by assumption) (by first | omega | (simp; done) | (simp; omega) | (simp at *; omega))))))) hm)).mono ?_
  rintro e w1 ⟨rfl, hbw1⟩
  have z1 := hbw1.size
  try simp at z1
  have c1_0 : w1.cell? ⟨w.heap.size, 0, none⟩ = some (.int .i64 o) := by rw [(bcell hbw1).1 _ _ (by first | (simp; done) | (simp; omega) | omega)]; simp [go_sem, World.cell?_alloc_past, *]
  have c1_1 : w1.cell? ⟨w.heap.size, 1, none⟩ = some (.int .i64 h) := by rw [(bcell hbw1).1 _ _ (by first | (simp; done) | (simp; omega) | omega)]; simp [go_sem, World.cell?_alloc_past, *]
  have hB1 : Below w.heap.size w w1 := (by (repeat (first | (with_reducible refine Below.drew ?_) | (with_reducible refine below_drewN ?_ _) | (with_reducible refine Below.alloc ?_ (by first | omega | (simp; done) | (simp; omega) | (simp at *; omega)) _) | (with_reducible refine Below.setCell ?_ (by first | omega | (simp; done) | (simp; omega) | (simp at *; omega)) _) | (with_reducible exact Below.refl _ _) | (with_reducible assumption) | (with_reducible refine Below.trans ?_ (Below.mono (by assumption) (by first | omega | (simp; done) | (simp; omega) | (simp at *; omega)))))))
  have o1_0 : w.heap.size < w1.heap.size := by omega
  have n1_0 : w1.heap.size ≠ w.heap.size := by omega
  have t1_0_1 : w.heap.size < w1.heap.size + 1 := by omega
  have t1_0_2 : w.heap.size < w1.heap.size + 1 + 1 := by omega
  have t1_0_3 : w.heap.size < w1.heap.size + 1 + 1 + 1 := by omega
  have t1_0_4 : w.heap.size < w1.heap.size + 1 + 1 + 1 + 1 := by omega
  have t1_0_5 : w.heap.size < w1.heap.size + 1 + 1 + 1 + 1 + 1 := by omega
  have t1_0_6 : w.heap.size < w1.heap.size + 1 + 1 + 1 + 1 + 1 + 1 := by omega
  have t1_0_7 : w.heap.size < w1.heap.size + 1 + 1 + 1 + 1 + 1 + 1 + 1 := by omega
  have t1_0_8 : w.heap.size < w1.heap.size + 1 + 1 + 1 + 1 + 1 + 1 + 1 + 1 := by omega
  have b1 : w.heap.size ≤ w1.heap.size := by omega
  clear hbw1
  go_wp2_with fail
  refine (Density_ok o h p X Y _ hp hX hY).mono ?_
  rintro e w2 ⟨rfl, hbw2⟩
  have z2 := hbw2.size
  try simp at z2
  have c2_0 : w2.cell? ⟨w.heap.size, 0, none⟩ = some (.int .i64 o) := by rw [(bcell hbw2).1 _ _ (by first | (simp; done) | (simp; omega) | omega)]; simp [go_sem, World.cell?_alloc_past, *]
  have c2_1 : w2.cell? ⟨w.heap.size, 1, none⟩ = some (.int .i64 h) := by rw [(bcell hbw2).1 _ _ (by first | (simp; done) | (simp; omega) | omega)]; simp [go_sem, World.cell?_alloc_past, *]
  have hB2 : Below w.heap.size w w2 := (by (repeat (first | (with_reducible refine Below.drew ?_) | (with_reducible refine below_drewN ?_ _) | (with_reducible refine Below.alloc ?_ (by first | omega | (simp; done) | (simp; omega) | (simp at *; omega)) _) | (with_reducible refine Below.setCell ?_ (by first | omega | (simp; done) | (simp; omega) | (simp at *; omega)) _) | (with_reducible exact Below.refl _ _) | (with_reducible assumption) | (with_reducible refine Below.trans ?_ (Below.mono (by assumption) (by first | omega | (simp; done) | (simp; omega) | (simp at *; omega)))))))
  clear c1_0 c1_1 o1_0 n1_0 t1_0_1 t1_0_2 t1_0_3 t1_0_4 t1_0_5 t1_0_6 t1_0_7 t1_0_8
  have o2_0 : w.heap.size < w2.heap.size := by omega
  have n2_0 : w2.heap.size ≠ w.heap.size := by omega
  have t2_0_1 : w.heap.size < w2.heap.size + 1 := by omega
  have t2_0_2 : w.heap.size < w2.heap.size + 1 + 1 := by omega
  have t2_0_3 : w.heap.size < w2.heap.size + 1 + 1 + 1 := by omega
  have t2_0_4 : w.heap.size < w2.heap.size + 1 + 1 + 1 + 1 := by omega
  have t2_0_5 : w.heap.size < w2.heap.size + 1 + 1 + 1 + 1 + 1 := by omega
  have t2_0_6 : w.heap.size < w2.heap.size + 1 + 1 + 1 + 1 + 1 + 1 := by omega
  have t2_0_7 : w.heap.size < w2.heap.size + 1 + 1 + 1 + 1 + 1 + 1 + 1 := by omega
  have t2_0_8 : w.heap.size < w2.heap.size + 1 + 1 + 1 + 1 + 1 + 1 + 1 + 1 := by omega
  have b2 : w.heap.size ≤ w2.heap.size := by omega
  clear hbw2
  go_wp2_with fail
  refine (WeightOf_ok o h n U V _ ha hU hV).mono ?_
  rintro e w3 ⟨rfl, hbw3⟩
  have z3 := hbw3.size
  try simp at z3
  have c3_0 : w3.cell? ⟨w.heap.size, 0, none⟩ = some (.int .i64 o) := by rw [(bcell hbw3).1 _ _ (by first | (simp; done) | (simp; omega) | omega)]; simp [go_sem, World.cell?_alloc_past, *]
  have c3_1 : w3.cell? ⟨w.heap.size, 1, none⟩ = some (.int .i64 h) := by rw [(bcell hbw3).1 _ _ (by first | (simp; done) | (simp; omega) | omega)]; simp [go_sem, World.cell?_alloc_past, *]
  have c3_2 : w3.cell? ⟨w2.heap.size, 0, none⟩ = some (.int .i64 X) := by rw [(bcell hbw3).1 _ _ (by first | (simp; done) | (simp; omega) | omega)]; simp [go_sem, World.cell?_alloc_past, *]
  have c3_3 : w3.cell? ⟨w2.heap.size, 1, none⟩ = some (.int .i64 Y) := by rw [(bcell hbw3).1 _ _ (by first | (simp; done) | (simp; omega) | omega)]; simp [go_sem, World.cell?_alloc_past, *]
  have hB3 : Below w.heap.size w w3 := (by (repeat (first | (with_reducible refine Below.drew ?_) | (with_reducible refine below_drewN ?_ _) | (with_reducible refine Below.alloc ?_ (by first | omega | (simp; done) | (simp; omega) | (simp at *; omega)) _) | (with_reducible refine Below.setCell ?_ (by first | omega | (simp; done) | (simp; omega) | (simp at *; omega)) _) | (with_reducible exact Below.refl _ _) | (with_reducible assumption) | (with_reducible refine Below.trans ?_ (Below.mono (by assumption) (by first | omega | (simp; done) | (simp; omega) | (simp at *; omega)))))))
  clear c2_0 c2_1 o2_0 n2_0 t2_0_1 t2_0_2 t2_0_3 t2_0_4 t2_0_5 t2_0_6 t2_0_7 t2_0_8
  have o3_0 : w.heap.size < w3.heap.size := by omega
  have n3_0 : w3.heap.size ≠ w.heap.size := by omega
  have t3_0_1 : w.heap.size < w3.heap.size + 1 := by omega
  have t3_0_2 : w.heap.size < w3.heap.size + 1 + 1 := by omega
  have t3_0_3 : w.heap.size < w3.heap.size + 1 + 1 + 1 := by omega
  have t3_0_4 : w.heap.size < w3.heap.size + 1 + 1 + 1 + 1 := by omega
  have t3_0_5 : w.heap.size < w3.heap.size + 1 + 1 + 1 + 1 + 1 := by omega
  have t3_0_6 : w.heap.size < w3.heap.size + 1 + 1 + 1 + 1 + 1 + 1 := by omega
  have t3_0_7 : w.heap.size < w3.heap.size + 1 + 1 + 1 + 1 + 1 + 1 + 1 := by omega
  have t3_0_8 : w.heap.size < w3.heap.size + 1 + 1 + 1 + 1 + 1 + 1 + 1 + 1 := by omega
  have o3_1 : w2.heap.size < w3.heap.size := by omega
  have n3_1 : w3.heap.size ≠ w2.heap.size := by omega
  have t3_1_1 : w2.heap.size < w3.heap.size + 1 := by omega
  have t3_1_2 : w2.heap.size < w3.heap.size + 1 + 1 := by omega
  have t3_1_3 : w2.heap.size < w3.heap.size + 1 + 1 + 1 := by omega
  have t3_1_4 : w2.heap.size < w3.heap.size + 1 + 1 + 1 + 1 := by omega
  have t3_1_5 : w2.heap.size < w3.heap.size + 1 + 1 + 1 + 1 + 1 := by omega
  have t3_1_6 : w2.heap.size < w3.heap.size + 1 + 1 + 1 + 1 + 1 + 1 := by omega
  have t3_1_7 : w2.heap.size < w3.heap.size + 1 + 1 + 1 + 1 + 1 + 1 + 1 := by omega
  have t3_1_8 : w2.heap.size < w3.heap.size + 1 + 1 + 1 + 1 + 1 + 1 + 1 + 1 := by omega
  have b3 : w.heap.size ≤ w3.heap.size := by omega
  clear hbw3
  go_wp2_with (first | (go_at_call 20; ((with_reducible refine (refCheckGas_w _ _ 0 _ hg).mono ?_)); rintro e w' ⟨rfl, rfl⟩) | (go_at_call 27; ((with_reducible refine (IsPressure_w p true _ hip).mono ?_)); rintro e w' ⟨rfl, rfl⟩) | (go_at_call 34; ((with_reducible refine (baseWithin_b n _ _ true _ hin).mono ?_)); rintro e w' ⟨rfl, rfl⟩))
  go_upto_region 11 with (fail)
  go_cut [70] from 13 (fun s70 wx => s70 = .bool false ∧ Below w.heap.size w wx ∧ w3.heap.size + 2 ≤ wx.heap.size ∧ wx.cell? ⟨w.heap.size, 0, none⟩ = some (.int .i64 o) ∧ wx.cell? ⟨w.heap.size, 1, none⟩ = some (.int .i64 h) ∧ wx.cell? ⟨w2.heap.size, 0, none⟩ = some (.int .i64 X) ∧ wx.cell? ⟨w2.heap.size, 1, none⟩ = some (.int .i64 Y) ∧ wx.cell? ⟨w3.heap.size, 0, none⟩ = some (.int .i64 U) ∧ wx.cell? ⟨w3.heap.size, 1, none⟩ = some (.int .i64 V))
  case first =>
    refine wp_region_held_drew (S := (fun w' => w'.cell? ⟨w.heap.size, 0, none⟩ = some (.int .i64 o) ∧ w'.cell? ⟨w.heap.size, 1, none⟩ = some (.int .i64 h) ∧ w'.cell? ⟨w2.heap.size, 0, none⟩ = some (.int .i64 X) ∧ w'.cell? ⟨w2.heap.size, 1, none⟩ = some (.int .i64 Y) ∧ w'.cell? ⟨w3.heap.size, 0, none⟩ = some (.int .i64 U) ∧ w'.cell? ⟨w3.heap.size, 1, none⟩ = some (.int .i64 V))) (by kernel_rfl) (by simp [go_sem, World.cell?_alloc_past, *]) (fun hHeld => ?_)
    refine wpAnyH_take (i := 0) (oi := ⟨some 44, _, _, _, _, _⟩) (v := ?_) rfl (by kernel_rfl) (by kernel_rfl) (by kernel_rfl) (fun _ _ _ h => h) (Or.inl ⟨by kernel_rfl, ?_⟩) (by assumption) ?_
    rotate_left
    · (intro w hSw; (try dsimp only at hSw); go_simp; all_goals with_reducible rfl)
    try simp only [Act.put, List.setIfInBounds_toArray, List.set_cons_zero, List.set_cons_succ]
    refine wpAnyH_take (i := 1) (oi := ⟨some 45, _, _, _, _, _⟩) (v := ?_) rfl (by kernel_rfl) (by kernel_rfl) (by kernel_rfl) (fun _ _ _ h => h) (Or.inl ⟨by kernel_rfl, ?_⟩) (by assumption) ?_
    rotate_left
    · (intro w hSw; (try dsimp only at hSw); go_simp; all_goals with_reducible rfl)
    try simp only [Act.put, List.setIfInBounds_toArray, List.set_cons_zero, List.set_cons_succ]
    refine wpAnyH_take (i := 2) (oi := ⟨some 46, _, _, _, _, _⟩) (v := ?_) rfl (by kernel_rfl) (by kernel_rfl) (by kernel_rfl) (fun _ _ _ h => h) (Or.inl ⟨by kernel_rfl, ?_⟩) (by assumption) ?_
    rotate_left
    · (intro w hSw; (try dsimp only at hSw); go_simp; all_goals with_reducible rfl)
    try simp only [Act.put, List.setIfInBounds_toArray, List.set_cons_zero, List.set_cons_succ]
    refine wpAnyH_take (i := 3) (oi := ⟨some 47, _, _, _, _, _⟩) (v := undef) rfl (by kernel_rfl) (by kernel_rfl) (by kernel_rfl) (fun _ _ _ h => h) (Or.inr ⟨by kernel_rfl, rfl⟩) (by assumption) ?_
    try simp only [Act.put, List.setIfInBounds_toArray, List.set_cons_zero, List.set_cons_succ]
    refine wpAnyH_take (i := 4) (oi := ⟨some 48, _, _, _, _, _⟩) (v := undef) rfl (by kernel_rfl) (by kernel_rfl) (by kernel_rfl) (fun _ _ _ h => h) (Or.inr ⟨by kernel_rfl, rfl⟩) (by assumption) ?_
    try simp only [Act.put, List.setIfInBounds_toArray, List.set_cons_zero, List.set_cons_succ]
    refine wpAnyH_take (i := 5) (oi := ⟨some 49, _, _, _, _, _⟩) (v := undef) rfl (by kernel_rfl) (by kernel_rfl) (by kernel_rfl) (fun _ _ _ h => h) (Or.inr ⟨by kernel_rfl, rfl⟩) (by assumption) ?_
    try simp only [Act.put, List.setIfInBounds_toArray, List.set_cons_zero, List.set_cons_succ]
    refine wpAnyH_take (i := 6) (oi := ⟨some 50, _, _, _, _, _⟩) (v := undef) rfl (by kernel_rfl) (by kernel_rfl) (by kernel_rfl) (fun _ _ _ h => h) (Or.inr ⟨by kernel_rfl, rfl⟩) (by assumption) ?_
    try simp only [Act.put, List.setIfInBounds_toArray, List.set_cons_zero, List.set_cons_succ]
    refine wpAnyH_take (i := 7) (oi := ⟨some 51, _, _, _, _, _⟩) (v := undef) rfl (by kernel_rfl) (by kernel_rfl) (by kernel_rfl) (fun _ _ _ h => h) (Or.inr ⟨by kernel_rfl, rfl⟩) (by assumption) ?_
    try simp only [Act.put, List.setIfInBounds_toArray, List.set_cons_zero, List.set_cons_succ]
    refine wpAnyH_take (i := 8) (oi := ⟨some 52, _, _, _, _, _⟩) (v := undef) rfl (by kernel_rfl) (by kernel_rfl) (by kernel_rfl) (fun _ _ _ h => h) (Or.inr ⟨by kernel_rfl, rfl⟩) (by assumption) ?_
    try simp only [Act.put, List.setIfInBounds_toArray, List.set_cons_zero, List.set_cons_succ]
    refine wpAnyH_take (i := 9) (oi := ⟨some 53, _, _, _, _, _⟩) (v := undef) rfl (by kernel_rfl) (by kernel_rfl) (by kernel_rfl) (fun _ _ _ h => h) (Or.inr ⟨by kernel_rfl, rfl⟩) (by assumption) ?_
    try simp only [Act.put, List.setIfInBounds_toArray, List.set_cons_zero, List.set_cons_succ]
    refine wpAnyH_take (i := 10) (oi := ⟨some 54, _, _, _, _, _⟩) (v := undef) rfl (by kernel_rfl) (by kernel_rfl) (by kernel_rfl) (fun _ _ _ h => h) (Or.inr ⟨by kernel_rfl, rfl⟩) (by assumption) ?_
    try simp only [Act.put, List.setIfInBounds_toArray, List.set_cons_zero, List.set_cons_succ]
    refine wpAnyH_take (i := 11) (oi := ⟨some 55, _, _, _, _, _⟩) (v := ?_) rfl (by kernel_rfl) (by kernel_rfl) (by kernel_rfl) (fun _ _ _ h => h) (Or.inl ⟨by kernel_rfl, ?_⟩) (by assumption) ?_
    rotate_left
    · (intro w hSw; (try dsimp only at hSw); go_simp; all_goals with_reducible rfl)
    try simp only [Act.put, List.setIfInBounds_toArray, List.set_cons_zero, List.set_cons_succ]
    refine wpAnyH_take (i := 12) (oi := ⟨some 56, _, _, _, _, _⟩) (v := ?_) rfl (by kernel_rfl) (by kernel_rfl) (by kernel_rfl) (fun _ _ _ h => h) (Or.inl ⟨by kernel_rfl, ?_⟩) (by assumption) ?_
    rotate_left
    · (intro w hSw; (try dsimp only at hSw); go_simp; all_goals with_reducible rfl)
    try simp only [Act.put, List.setIfInBounds_toArray, List.set_cons_zero, List.set_cons_succ]
    refine wpAnyH_take (i := 13) (oi := ⟨some 57, _, _, _, _, _⟩) (v := ?_) rfl (by kernel_rfl) (by kernel_rfl) (by kernel_rfl) (fun _ _ _ h => h) (Or.inl ⟨by kernel_rfl, ?_⟩) (by assumption) ?_
    rotate_left
    · (intro w hSw; (try dsimp only at hSw); go_simp; all_goals with_reducible rfl)
    try simp only [Act.put, List.setIfInBounds_toArray, List.set_cons_zero, List.set_cons_succ]
    refine wpAnyH_take (i := 14) (oi := ⟨some 58, _, _, _, _, _⟩) (v := ?_) rfl (by kernel_rfl) (by kernel_rfl) (by kernel_rfl) (fun _ _ _ h => h) (Or.inl ⟨by kernel_rfl, ?_⟩) (by assumption) ?_
    rotate_left
    · (intro w hSw; (try dsimp only at hSw); go_simp; all_goals with_reducible rfl)
    try simp only [Act.put, List.setIfInBounds_toArray, List.set_cons_zero, List.set_cons_succ]
    refine wpAnyH_take (i := 15) (oi := ⟨some 59, _, _, _, _, _⟩) (v := ?_) rfl (by kernel_rfl) (by kernel_rfl) (by kernel_rfl) (fun _ _ _ h => h) (Or.inl ⟨by kernel_rfl, ?_⟩) (by assumption) ?_
    rotate_left
    · (intro w hSw; (try dsimp only at hSw); go_simp; all_goals with_reducible rfl)
    try simp only [Act.put, List.setIfInBounds_toArray, List.set_cons_zero, List.set_cons_succ]
    refine wpAnyH_take (i := 16) (oi := ⟨some 60, _, _, _, _, _⟩) (v := ?_) rfl (by kernel_rfl) (by kernel_rfl) (by kernel_rfl) (fun _ _ _ h => h) (Or.inl ⟨by kernel_rfl, ?_⟩) (by assumption) ?_
    rotate_left
    · (intro w hSw; (try dsimp only at hSw); go_simp; all_goals with_reducible rfl)
    try simp only [Act.put, List.setIfInBounds_toArray, List.set_cons_zero, List.set_cons_succ]
    refine wpAnyH_take (i := 17) (oi := ⟨some 61, _, _, _, _, _⟩) (v := ?_) rfl (by kernel_rfl) (by kernel_rfl) (by kernel_rfl) (fun _ _ _ h => h) (Or.inl ⟨by kernel_rfl, ?_⟩) (by assumption) ?_
    rotate_left
    · (intro w hSw; (try dsimp only at hSw); go_simp; all_goals with_reducible rfl)
    try simp only [Act.put, List.setIfInBounds_toArray, List.set_cons_zero, List.set_cons_succ]
    refine wpAnyH_take (i := 18) (oi := ⟨some 62, _, _, _, _, _⟩) (v := ?_) rfl (by kernel_rfl) (by kernel_rfl) (by kernel_rfl) (fun _ _ _ h => h) (Or.inl ⟨by kernel_rfl, ?_⟩) (by assumption) ?_
    rotate_left
    · (intro w hSw; (try dsimp only at hSw); go_simp; all_goals with_reducible rfl)
    try simp only [Act.put, List.setIfInBounds_toArray, List.set_cons_zero, List.set_cons_succ]
    refine wpAnyH_take (i := 19) (oi := ⟨some 63, _, _, _, _, _⟩) (v := ?_) rfl (by kernel_rfl) (by kernel_rfl) (by kernel_rfl) (fun _ _ _ h => h) (Or.inl ⟨by kernel_rfl, ?_⟩) (by assumption) ?_
    rotate_left
    · (intro w hSw; (try dsimp only at hSw); go_simp; all_goals with_reducible rfl)
    try simp only [Act.put, List.setIfInBounds_toArray, List.set_cons_zero, List.set_cons_succ]
    refine wpAnyH_take (i := 20) (oi := ⟨some 64, _, _, _, _, _⟩) (v := ?_) rfl (by kernel_rfl) (by kernel_rfl) (by kernel_rfl) (fun _ _ _ h => h) (Or.inl ⟨by kernel_rfl, ?_⟩) (by assumption) ?_
    rotate_left
    · (intro w hSw; (try dsimp only at hSw); go_simp; all_goals with_reducible rfl)
    try simp only [Act.put, List.setIfInBounds_toArray, List.set_cons_zero, List.set_cons_succ]
    refine wpAnyH_take (i := 21) (oi := ⟨some 65, _, _, _, _, _⟩) (v := ?_) rfl (by kernel_rfl) (by kernel_rfl) (by kernel_rfl) (fun _ _ _ h => h) (Or.inl ⟨by kernel_rfl, ?_⟩) (by assumption) ?_
    rotate_left
    · (intro w hSw; (try dsimp only at hSw); go_simp; all_goals with_reducible rfl)
    try simp only [Act.put, List.setIfInBounds_toArray, List.set_cons_zero, List.set_cons_succ]
    refine wpAnyH_ready (rs := [22]) (by kernel_rfl) (by simp) ?_
    refine AllReadyH.cons rfl (fun K hK => ?_) AllReadyH.nil
    go_simp
    go_at_call 46
    ((with_reducible refine (refDensity_ok o h p X Y _ k1 k2 k3 k4 k7 k5 (by omega) hX hY).mono ?_))
    rintro e wd ⟨rfl, hbwd⟩
    have zd := hbwd.size
    (try simp at zd)
    have d0 : wd.cell? ⟨w.heap.size, 0, none⟩ = some (.int .i64 o) := (by rw [(bcell hbwd).1 _ _ (by first | (simp; done) | (simp; omega) | omega)]; simp [go_sem, World.cell?_alloc_past, *])
    have d1 : wd.cell? ⟨w.heap.size, 1, none⟩ = some (.int .i64 h) := (by rw [(bcell hbwd).1 _ _ (by first | (simp; done) | (simp; omega) | omega)]; simp [go_sem, World.cell?_alloc_past, *])
    have d2 : wd.cell? ⟨w2.heap.size, 0, none⟩ = some (.int .i64 X) := (by rw [(bcell hbwd).1 _ _ (by first | (simp; done) | (simp; omega) | omega)]; simp [go_sem, World.cell?_alloc_past, *])
    have d3 : wd.cell? ⟨w2.heap.size, 1, none⟩ = some (.int .i64 Y) := (by rw [(bcell hbwd).1 _ _ (by first | (simp; done) | (simp; omega) | omega)]; simp [go_sem, World.cell?_alloc_past, *])
    have d4 : wd.cell? ⟨w3.heap.size, 0, none⟩ = some (.int .i64 U) := (by rw [(bcell hbwd).1 _ _ (by first | (simp; done) | (simp; omega) | omega)]; simp [go_sem, World.cell?_alloc_past, *])
    have d5 : wd.cell? ⟨w3.heap.size, 1, none⟩ = some (.int .i64 V) := (by rw [(bcell hbwd).1 _ _ (by first | (simp; done) | (simp; omega) | omega)]; simp [go_sem, World.cell?_alloc_past, *])
    have dn0 : wd.heap.size ≠ w.heap.size := (by omega)
    have do0 : w.heap.size < wd.heap.size := (by omega)
    have dn1 : wd.heap.size ≠ w2.heap.size := (by omega)
    have do1 : w2.heap.size < wd.heap.size := (by omega)
    have dn2 : wd.heap.size ≠ w3.heap.size := (by omega)
    have do2 : w3.heap.size < wd.heap.size := (by omega)
    go_wp2_with fail
    refine hK.out _ _ (by simp [go_sem, World.cell?_alloc_past, *]) (fun hHeld => ?_)
    clear hK K
    try simp only [Act.put, List.setIfInBounds_toArray, List.set_cons_zero, List.set_cons_succ]
    refine wpAnyH_take (i := 23) (oi := ⟨some 67, _, _, _, _, _⟩) (v := ?_) rfl (by kernel_rfl) (by kernel_rfl) (by kernel_rfl) (fun _ _ _ h => h) (Or.inl ⟨by kernel_rfl, ?_⟩) (by assumption) ?_
    rotate_left
    · (intro w hSw; (try dsimp only at hSw); go_simp; all_goals with_reducible rfl)
    try simp only [Act.put, List.setIfInBounds_toArray, List.set_cons_zero, List.set_cons_succ]
    refine wpAnyH_take (i := 24) (oi := ⟨some 68, _, _, _, _, _⟩) (v := ?_) rfl (by kernel_rfl) (by kernel_rfl) (by kernel_rfl) (fun _ _ _ h => h) (Or.inl ⟨by kernel_rfl, ?_⟩) (by assumption) ?_
    rotate_left
    · (intro w hSw; (try dsimp only at hSw); go_simp; all_goals with_reducible rfl)
    try simp only [Act.put, List.setIfInBounds_toArray, List.set_cons_zero, List.set_cons_succ]
    refine wpAnyH_take (i := 25) (oi := ⟨some 69, _, _, _, _, _⟩) (v := ?_) rfl (by kernel_rfl) (by kernel_rfl) (by kernel_rfl) (fun _ _ _ h => h) (Or.inl ⟨by kernel_rfl, ?_⟩) (by assumption) ?_
    rotate_left
    · (intro w hSw; (try dsimp only at hSw); go_simp; all_goals with_reducible rfl)
    try simp only [Act.put, List.setIfInBounds_toArray, List.set_cons_zero, List.set_cons_succ]
    refine wpAnyH_take (i := 26) (oi := ⟨some 70, _, _, _, _, _⟩) (v := ?_) rfl (by kernel_rfl) (by kernel_rfl) (by kernel_rfl) (fun _ _ _ h => h) (Or.inl ⟨by kernel_rfl, ?_⟩) (by assumption) ?_
    rotate_left
    · (intro w hSw; (try dsimp only at hSw); go_simp; all_goals with_reducible rfl)
    try simp only [Act.put, List.setIfInBounds_toArray, List.set_cons_zero, List.set_cons_succ]
    refine wpAnyH_done (by kernel_rfl) ?_ _
    all_goals (go_wp2_with fail; go_meet; exact ⟨rfl, (by (repeat (first | (with_reducible refine Below.drew ?_) | (with_reducible refine below_drewN ?_ _) | (with_reducible refine Below.alloc ?_ (by first | omega | (simp; done) | (simp; omega) | (simp at *; omega)) _) | (with_reducible refine Below.setCell ?_ (by first | omega | (simp; done) | (simp; omega) | (simp at *; omega)) _) | (with_reducible exact Below.refl _ _) | (with_reducible assumption) | (with_reducible refine Below.trans ?_ (Below.mono (by assumption) (by first | omega | (simp; done) | (simp; omega) | (simp at *; omega))))))), (by first | (simp; done) | (simp; omega) | omega), (by simp [go_sem, World.cell?_alloc_past, *]), (by simp [go_sem, World.cell?_alloc_past, *]), (by simp [go_sem, World.cell?_alloc_past, *]), (by simp [go_sem, World.cell?_alloc_past, *]), (by simp [go_sem, World.cell?_alloc_past, *]), (by simp [go_sem, World.cell?_alloc_past, *])⟩)
  case rest =>
    obtain ⟨rfl, hB4, z4, c4_0, c4_1, c4_2, c4_3, c4_4, c4_5⟩ := hcut
    clear c3_0 c3_1 c3_2 c3_3 o3_0 n3_0 t3_0_1 t3_0_2 t3_0_3 t3_0_4 t3_0_5 t3_0_6 t3_0_7 t3_0_8 o3_1 n3_1 t3_1_1 t3_1_2 t3_1_3 t3_1_4 t3_1_5 t3_1_6 t3_1_7 t3_1_8
    have o4_0 : w.heap.size < wc.heap.size := by omega
    have n4_0 : wc.heap.size ≠ w.heap.size := by omega
    have t4_0_1 : w.heap.size < wc.heap.size + 1 := by omega
    have t4_0_2 : w.heap.size < wc.heap.size + 1 + 1 := by omega
    have t4_0_3 : w.heap.size < wc.heap.size + 1 + 1 + 1 := by omega
    have t4_0_4 : w.heap.size < wc.heap.size + 1 + 1 + 1 + 1 := by omega
    have t4_0_5 : w.heap.size < wc.heap.size + 1 + 1 + 1 + 1 + 1 := by omega
    have t4_0_6 : w.heap.size < wc.heap.size + 1 + 1 + 1 + 1 + 1 + 1 := by omega
    have t4_0_7 : w.heap.size < wc.heap.size + 1 + 1 + 1 + 1 + 1 + 1 + 1 := by omega
    have t4_0_8 : w.heap.size < wc.heap.size + 1 + 1 + 1 + 1 + 1 + 1 + 1 + 1 := by omega
    have o4_1 : w2.heap.size < wc.heap.size := by omega
    have n4_1 : wc.heap.size ≠ w2.heap.size := by omega
    have t4_1_1 : w2.heap.size < wc.heap.size + 1 := by omega
    have t4_1_2 : w2.heap.size < wc.heap.size + 1 + 1 := by omega
    have t4_1_3 : w2.heap.size < wc.heap.size + 1 + 1 + 1 := by omega
    have t4_1_4 : w2.heap.size < wc.heap.size + 1 + 1 + 1 + 1 := by omega
    have t4_1_5 : w2.heap.size < wc.heap.size + 1 + 1 + 1 + 1 + 1 := by omega
    have t4_1_6 : w2.heap.size < wc.heap.size + 1 + 1 + 1 + 1 + 1 + 1 := by omega
    have t4_1_7 : w2.heap.size < wc.heap.size + 1 + 1 + 1 + 1 + 1 + 1 + 1 := by omega
    have t4_1_8 : w2.heap.size < wc.heap.size + 1 + 1 + 1 + 1 + 1 + 1 + 1 + 1 := by omega
    have o4_2 : w3.heap.size < wc.heap.size := by omega
    have n4_2 : wc.heap.size ≠ w3.heap.size := by omega
    have t4_2_1 : w3.heap.size < wc.heap.size + 1 := by omega
    have t4_2_2 : w3.heap.size < wc.heap.size + 1 + 1 := by omega
    have t4_2_3 : w3.heap.size < wc.heap.size + 1 + 1 + 1 := by omega
    have t4_2_4 : w3.heap.size < wc.heap.size + 1 + 1 + 1 + 1 := by omega
    have t4_2_5 : w3.heap.size < wc.heap.size + 1 + 1 + 1 + 1 + 1 := by omega
    have t4_2_6 : w3.heap.size < wc.heap.size + 1 + 1 + 1 + 1 + 1 + 1 := by omega
    have t4_2_7 : w3.heap.size < wc.heap.size + 1 + 1 + 1 + 1 + 1 + 1 + 1 := by omega
    have t4_2_8 : w3.heap.size < wc.heap.size + 1 + 1 + 1 + 1 + 1 + 1 + 1 + 1 := by omega
    have o4_3 : w3.heap.size + 1 < wc.heap.size := by omega
    have n4_3 : wc.heap.size ≠ w3.heap.size + 1 := by omega
    have t4_3_1 : w3.heap.size + 1 < wc.heap.size + 1 := by omega
    have t4_3_2 : w3.heap.size + 1 < wc.heap.size + 1 + 1 := by omega
    have t4_3_3 : w3.heap.size + 1 < wc.heap.size + 1 + 1 + 1 := by omega
    have t4_3_4 : w3.heap.size + 1 < wc.heap.size + 1 + 1 + 1 + 1 := by omega
    have t4_3_5 : w3.heap.size + 1 < wc.heap.size + 1 + 1 + 1 + 1 + 1 := by omega
    have t4_3_6 : w3.heap.size + 1 < wc.heap.size + 1 + 1 + 1 + 1 + 1 + 1 := by omega
    have t4_3_7 : w3.heap.size + 1 < wc.heap.size + 1 + 1 + 1 + 1 + 1 + 1 + 1 := by omega
    have t4_3_8 : w3.heap.size + 1 < wc.heap.size + 1 + 1 + 1 + 1 + 1 + 1 + 1 + 1 := by omega
    have b4 : w.heap.size ≤ wc.heap.size := by omega
    go_wp2
    go_region_held3 (fun w' => w'.cell? ⟨w.heap.size, 0, none⟩ = some (.int .i64 o) ∧ w'.cell? ⟨w.heap.size, 1, none⟩ = some (.int .i64 h) ∧ w'.cell? ⟨w3.heap.size, 0, none⟩ = some (.int .i64 U) ∧ w'.cell? ⟨w3.heap.size, 1, none⟩ = some (.int .i64 V)) (simp [go_sem, World.cell?_alloc_past, *])
      (first | (go_at_call 46; ((with_reducible refine (refDensity_ok o h n U V _ k1 k2 k3 k4 k7 k8 k9 hU hV).mono ?_)); rintro e wd ⟨rfl, hbwd⟩; have zd := hbwd.size; (try simp at zd); have d0 : wd.cell? ⟨w.heap.size, 0, none⟩ = some (.int .i64 o) := (by rw [(bcell hbwd).1 _ _ (by first | (simp; done) | (simp; omega) | omega)]; simp [go_sem, World.cell?_alloc_past, *]); have d1 : wd.cell? ⟨w.heap.size, 1, none⟩ = some (.int .i64 h) := (by rw [(bcell hbwd).1 _ _ (by first | (simp; done) | (simp; omega) | omega)]; simp [go_sem, World.cell?_alloc_past, *]); have d2 : wd.cell? ⟨w2.heap.size, 0, none⟩ = some (.int .i64 X) := (by rw [(bcell hbwd).1 _ _ (by first | (simp; done) | (simp; omega) | omega)]; simp [go_sem, World.cell?_alloc_past, *]); have d3 : wd.cell? ⟨w2.heap.size, 1, none⟩ = some (.int .i64 Y) := (by rw [(bcell hbwd).1 _ _ (by first | (simp; done) | (simp; omega) | omega)]; simp [go_sem, World.cell?_alloc_past, *]); have d4 : wd.cell? ⟨w3.heap.size, 0, none⟩ = some (.int .i64 U) := (by rw [(bcell hbwd).1 _ _ (by first | (simp; done) | (simp; omega) | omega)]; simp [go_sem, World.cell?_alloc_past, *]); have d5 : wd.cell? ⟨w3.heap.size, 1, none⟩ = some (.int .i64 V) := (by rw [(bcell hbwd).1 _ _ (by first | (simp; done) | (simp; omega) | omega)]; simp [go_sem, World.cell?_alloc_past, *]); have dn0 : wd.heap.size ≠ w.heap.size := (by omega); have do0 : w.heap.size < wd.heap.size := (by omega); have dn1 : wd.heap.size ≠ w2.heap.size := (by omega); have do1 : w2.heap.size < wd.heap.size := (by omega); have dn2 : wd.heap.size ≠ w3.heap.size := (by omega); have do2 : w3.heap.size < wd.heap.size := (by omega)))
    all_goals
      go_wp2
      go_ret
      exact ⟨rfl, (by (repeat (first | (with_reducible refine Below.drew ?_) | (with_reducible refine below_drewN ?_ _) | (with_reducible refine Below.alloc ?_ (by first | omega | (simp; done) | (simp; omega) | (simp at *; omega)) _) | (with_reducible refine Below.setCell ?_ (by first | omega | (simp; done) | (simp; omega) | (simp at *; omega)) _) | (with_reducible exact Below.refl _ _) | (with_reducible assumption) | (with_reducible refine Below.trans ?_ (Below.mono (by assumption) (by first | omega | (simp; done) | (simp; omega) | (simp at *; omega)))))))⟩
theorem gasWeights_any (o h p n : Int) (w : World) (m : Int) (hm : w.cell? ⟨1, 0, none⟩ = some (.int .i64 m)) :
    Calls Tryd.prog 11 #[.agg #[.int .i64 o, .int .i64 h], .int .i64 p, .int .i64 n] w fun e w' => e = .returned (.bool true) ∧ Below w.heap.size w w' := by
  rcases ez (gasE o h) with ⟨hg, hgb⟩ | ⟨hg, hgb⟩
  · obtain ⟨k1, k2, k3, k4, k7⟩ := gasE_z hg.out
    rcases inB_cases p 0 100000 with hp | hp <;> rcases inB_cases n 0 1000000000 with hn | hn
    · obtain ⟨k5, k6⟩ := inB_iff.1 hp
      obtain ⟨k8, k9⟩ := inB_iff.1 hn
      exact wlaw_kk o h p n w m hm hg k1 k2 k3 k4 k7 hp (paE_kw hg.out hp) k5 k6 _ _ rfl rfl hn (wtE_kw hg.out hn) k8 k9 _ _ rfl rfl
    · obtain ⟨k5, k6⟩ := inB_iff.1 hp
      exact wlaw_kb o h p n w m hm hg k1 k2 k3 k4 k7 hp (paE_kw hg.out hp) k5 k6 _ _ rfl rfl hn (wtE_pw hg.out hn)
    · obtain ⟨k8, k9⟩ := inB_iff.1 hn
      exact wlaw_bk o h p n w m hm hg k1 k2 k3 k4 k7 hp (paE_pw hg.out hp) hn (wtE_kw hg.out hn) k8 k9 _ _ rfl rfl
    · exact wlaw_bb o h p n w m hm hg k1 k2 k3 k4 k7 hp (paE_pw hg.out hp) hn (wtE_pw hg.out hn)
  · exact wlaw_g o h p n w m hm _ rfl (paE_gw hg.out) (wtE_gw hg.out) hgb (by simpa using hg.out)
end Go.Proofs.YtebieflnlmdllaaDoor
