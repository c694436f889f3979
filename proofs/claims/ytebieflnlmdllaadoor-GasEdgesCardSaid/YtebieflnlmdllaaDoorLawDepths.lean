/- The walk of shotlinelaw01.GasDepths: it returns true. -/
import Derived.Test.YtebieflnlmdllaaDoorAwake
import Derived.Test.YtebieflnlmdllaaDoorIs
import Derived.Test.YtebieflnlmdllaaDoorRefDep
import Derived.Deep.Cut
import Derived.Outline
namespace Go.Proofs.YtebieflnlmdllaaDoor
open Go.ChangeShapes Go.WideShapes Go.ChangeAt Go.RowKit
set_option linter.unusedVariables false
set_option linter.unusedSimpArgs false
attribute [local go_sem ↓] Go.wp_at_zero Go.wp_at_succ

theorem depP_pl {o h s a b : Int} (k : eqE o h s 0 ≠ 0) : depP o h s a b = eqE o h s 0 := by
  have r0 : rngE 0 0 30000 = 0 := rngE_t (inB_true (by omega) (by omega))
  unfold eqE depP at *
  rw [r0] at k ⊢
  by_cases c1 : gasE o h = 0
  · by_cases c2 : rngE s 400 1100 = 0
    · simp [firE, c1, c2] at k
    · simp [firE, c1, c2]
  · simp [firE, c1]
theorem depP_li {o h s a b : Int} (k : eqE o h s 0 = 0) : depP o h s a b = limE a b := by
  obtain ⟨k1, k2, k3⟩ := firE3_z (show firE [gasE o h, rngE s 400 1100, rngE 0 0 30000] = 0 from k)
  unfold depP
  simp only [firE, k1, k2, if_true]
  split <;> simp [*]
set_option maxRecDepth 100000 in
set_option maxHeartbeats 2000000 in
theorem dlaw_p (o h s a b : Int) (w : World) (m : Int) (hm : w.cell? ⟨1, 0, none⟩ = some (.int .i64 m)) (c u : Int) (hp : Hid (eqE o h s 0 = c)) (hc : (c != 0) = true) (hc2 : (c == 0) = false) (he : Hid (limE a b = u)) (hd : Hid (depE o h s a b = c)) (h0 : Hid (depL o h s a b = 0)) (h1 : Hid (depH o h s a b = 0)) :
    Calls Tryd.prog 5 #[.agg #[.int .i64 o, .int .i64 h], .int .i64 s, .agg #[.int .i64 a, .int .i64 b]] w fun e w' => e = .returned (.bool true) ∧ Below w.heap.size w w' := by
  have hl := World.block_lt_of_cell? _ _ hm
  have hne : w.heap.size ≠ 1 := by simp at hl; omega
  have hl2 : 1 < w.heap.size := by simpa using hl
  go_enter Tryd.func5, Tryd.ntmps5
  go_wp2_with fail
  refine (awake_any _ m (by exact oldCell (by (repeat (first | (with_reducible refine Below.drew ?_) | (with_reducible refine below_drewN ?_ _) | (with_reducible refine Below.alloc ?_ (by first | omega | (simp; done) | (simp; omega) | (simp at *; omega)) _) | (with_reducible refine Below.setCell ?_ (by first | omega | (simp; done) | (simp; omega) | (simp at *; omega)) _) | (with_reducible exact Below.refl _ _) | (with_reducible assumption) | (with_reducible refine Below.trans ?_ (Below.mono (by assumption) (by first | omega | (simp; done) | (simp; omega) | (simp at *; omega))))))) hm)).mono ?_
  rintro e w1 ⟨rfl, hbw1⟩
  have z1 := hbw1.size
  try simp at z1
  have c1_0 : w1.cell? ⟨w.heap.size, 0, none⟩ = some (.int .i64 o) := by rw [(bcell hbw1).1 _ _ (by first | (simp; done) | (simp; omega) | omega)]; simp [go_sem, World.cell?_alloc_past, *]
  have c1_1 : w1.cell? ⟨w.heap.size, 1, none⟩ = some (.int .i64 h) := by rw [(bcell hbw1).1 _ _ (by first | (simp; done) | (simp; omega) | omega)]; simp [go_sem, World.cell?_alloc_past, *]
  have c1_2 : w1.cell? ⟨w.heap.size + 1, 0, none⟩ = some (.int .i64 a) := by rw [(bcell hbw1).1 _ _ (by first | (simp; done) | (simp; omega) | omega)]; simp [go_sem, World.cell?_alloc_past, *]
  have c1_3 : w1.cell? ⟨w.heap.size + 1, 1, none⟩ = some (.int .i64 b) := by rw [(bcell hbw1).1 _ _ (by first | (simp; done) | (simp; omega) | omega)]; simp [go_sem, World.cell?_alloc_past, *]
  have hB1 : Below w.heap.size w w1 := (by (repeat (first | (with_reducible refine Below.drew ?_) | (with_reducible refine below_drewN ?_ _) | (with_reducible refine Below.alloc ?_ (by first | omega | (simp; done) | (simp; omega) | (simp at *; omega)) _) | (with_reducible refine Below.setCell ?_ (by first | omega | (simp; done) | (simp; omega) | (simp at *; omega)) _) | (with_reducible exact Below.refl _ _) | (with_reducible assumption) | (with_reducible refine Below.trans ?_ (Below.mono (by assumption) (by first | omega | (simp; done) | (simp; omega) | (simp at *; omega)))))))
  have o1_0 : w.heap.size < w1.heap.size := by omega
  have n1_0 : w1.heap.size ≠ w.heap.size := by omega
  have t1_0_1 : w.heap.size < w1.heap.size + 1 := by omega
  have t1_0_2 : w.heap.size < w1.heap.size + 1 + 1 := by omega
  have t1_0_3 : w.heap.size < w1.heap.size + 1 + 1 + 1 := by omega
  have t1_0_4 : w.heap.size < w1.heap.size + 1 + 1 + 1 + 1 := by omega
  have t1_0_5 : w.heap.size < w1.heap.size + 1 + 1 + 1 + 1 + 1 := by omega
  have o1_1 : w.heap.size + 1 < w1.heap.size := by omega
  have n1_1 : w1.heap.size ≠ w.heap.size + 1 := by omega
  have t1_1_1 : w.heap.size + 1 < w1.heap.size + 1 := by omega
  have t1_1_2 : w.heap.size + 1 < w1.heap.size + 1 + 1 := by omega
  have t1_1_3 : w.heap.size + 1 < w1.heap.size + 1 + 1 + 1 := by omega
  have t1_1_4 : w.heap.size + 1 < w1.heap.size + 1 + 1 + 1 + 1 := by omega
  have t1_1_5 : w.heap.size + 1 < w1.heap.size + 1 + 1 + 1 + 1 + 1 := by omega
  have b1 : w.heap.size ≤ w1.heap.size := by omega
  clear hbw1
  go_wp2_with fail
  refine (DepthsFor_is _ _ _ _ _ 0 0 c _ h0 h1 hd).mono ?_
  rintro e w2 ⟨rfl, hbw2⟩
  have z2 := hbw2.size
  try simp at z2
  have c2_0 : w2.cell? ⟨w.heap.size, 0, none⟩ = some (.int .i64 o) := by rw [(bcell hbw2).1 _ _ (by first | (simp; done) | (simp; omega) | omega)]; simp [go_sem, World.cell?_alloc_past, *]
  have c2_1 : w2.cell? ⟨w.heap.size, 1, none⟩ = some (.int .i64 h) := by rw [(bcell hbw2).1 _ _ (by first | (simp; done) | (simp; omega) | omega)]; simp [go_sem, World.cell?_alloc_past, *]
  have c2_2 : w2.cell? ⟨w.heap.size + 1, 0, none⟩ = some (.int .i64 a) := by rw [(bcell hbw2).1 _ _ (by first | (simp; done) | (simp; omega) | omega)]; simp [go_sem, World.cell?_alloc_past, *]
  have c2_3 : w2.cell? ⟨w.heap.size + 1, 1, none⟩ = some (.int .i64 b) := by rw [(bcell hbw2).1 _ _ (by first | (simp; done) | (simp; omega) | omega)]; simp [go_sem, World.cell?_alloc_past, *]
  have hB2 : Below w.heap.size w w2 := (by (repeat (first | (with_reducible refine Below.drew ?_) | (with_reducible refine below_drewN ?_ _) | (with_reducible refine Below.alloc ?_ (by first | omega | (simp; done) | (simp; omega) | (simp at *; omega)) _) | (with_reducible refine Below.setCell ?_ (by first | omega | (simp; done) | (simp; omega) | (simp at *; omega)) _) | (with_reducible exact Below.refl _ _) | (with_reducible assumption) | (with_reducible refine Below.trans ?_ (Below.mono (by assumption) (by first | omega | (simp; done) | (simp; omega) | (simp at *; omega)))))))
  clear c1_0 c1_1 c1_2 c1_3 o1_0 n1_0 t1_0_1 t1_0_2 t1_0_3 t1_0_4 t1_0_5 o1_1 n1_1 t1_1_1 t1_1_2 t1_1_3 t1_1_4 t1_1_5
  have o2_0 : w.heap.size < w2.heap.size := by omega
  have n2_0 : w2.heap.size ≠ w.heap.size := by omega
  have t2_0_1 : w.heap.size < w2.heap.size + 1 := by omega
  have t2_0_2 : w.heap.size < w2.heap.size + 1 + 1 := by omega
  have t2_0_3 : w.heap.size < w2.heap.size + 1 + 1 + 1 := by omega
  have t2_0_4 : w.heap.size < w2.heap.size + 1 + 1 + 1 + 1 := by omega
  have t2_0_5 : w.heap.size < w2.heap.size + 1 + 1 + 1 + 1 + 1 := by omega
  have o2_1 : w.heap.size + 1 < w2.heap.size := by omega
  have n2_1 : w2.heap.size ≠ w.heap.size + 1 := by omega
  have t2_1_1 : w.heap.size + 1 < w2.heap.size + 1 := by omega
  have t2_1_2 : w.heap.size + 1 < w2.heap.size + 1 + 1 := by omega
  have t2_1_3 : w.heap.size + 1 < w2.heap.size + 1 + 1 + 1 := by omega
  have t2_1_4 : w.heap.size + 1 < w2.heap.size + 1 + 1 + 1 + 1 := by omega
  have t2_1_5 : w.heap.size + 1 < w2.heap.size + 1 + 1 + 1 + 1 + 1 := by omega
  have b2 : w.heap.size ≤ w2.heap.size := by omega
  clear hbw2
  go_upto_region 4 with (fail)
  go_cut [25] from 12 (fun s25 wx => s25 = .bool false ∧ Below w.heap.size w wx ∧ w2.heap.size + 1 ≤ wx.heap.size ∧ wx.cell? ⟨w.heap.size, 0, none⟩ = some (.int .i64 o) ∧ wx.cell? ⟨w.heap.size, 1, none⟩ = some (.int .i64 h) ∧ wx.cell? ⟨w.heap.size + 1, 0, none⟩ = some (.int .i64 a) ∧ wx.cell? ⟨w.heap.size + 1, 1, none⟩ = some (.int .i64 b) ∧ wx.cell? ⟨w2.heap.size, 0, none⟩ = some (.int .i64 0) ∧ wx.cell? ⟨w2.heap.size, 1, none⟩ = some (.int .i64 0))
  case first =>
    go_region_held3 (fun w' => w'.cell? ⟨w.heap.size + 1, 0, none⟩ = some (.int .i64 a) ∧ w'.cell? ⟨w.heap.size + 1, 1, none⟩ = some (.int .i64 b)) (simp [go_sem, World.cell?_alloc_past, *])
      (first
        | (go_at_call 30; ((with_reducible refine (CheckLimits_is _ _ u _ he).mono ?_)); rintro e w' ⟨rfl, rfl⟩)
        | (go_at_call 31; ((with_reducible refine (refCheckLimits_is _ _ u _ he).mono ?_)); rintro e w' ⟨rfl, rfl⟩))
    all_goals (go_wp2_with fail; go_meet; exact ⟨rfl, (by (repeat (first | (with_reducible refine Below.drew ?_) | (with_reducible refine below_drewN ?_ _) | (with_reducible refine Below.alloc ?_ (by first | omega | (simp; done) | (simp; omega) | (simp at *; omega)) _) | (with_reducible refine Below.setCell ?_ (by first | omega | (simp; done) | (simp; omega) | (simp at *; omega)) _) | (with_reducible exact Below.refl _ _) | (with_reducible assumption) | (with_reducible refine Below.trans ?_ (Below.mono (by assumption) (by first | omega | (simp; done) | (simp; omega) | (simp at *; omega))))))), (by first | (simp; done) | (simp; omega) | omega), (by simp [go_sem, World.cell?_alloc_past, *]), (by simp [go_sem, World.cell?_alloc_past, *]), (by simp [go_sem, World.cell?_alloc_past, *]), (by simp [go_sem, World.cell?_alloc_past, *]), (by simp [go_sem, World.cell?_alloc_past, *]), (by simp [go_sem, World.cell?_alloc_past, *])⟩)
  case rest =>
    obtain ⟨rfl, hB3, z3, c3_0, c3_1, c3_2, c3_3, c3_4, c3_5⟩ := hcut
    clear c2_0 c2_1 c2_2 c2_3 o2_0 n2_0 t2_0_1 t2_0_2 t2_0_3 t2_0_4 t2_0_5 o2_1 n2_1 t2_1_1 t2_1_2 t2_1_3 t2_1_4 t2_1_5
    have o3_0 : w.heap.size < wc.heap.size := by omega
    have n3_0 : wc.heap.size ≠ w.heap.size := by omega
    have t3_0_1 : w.heap.size < wc.heap.size + 1 := by omega
    have t3_0_2 : w.heap.size < wc.heap.size + 1 + 1 := by omega
    have t3_0_3 : w.heap.size < wc.heap.size + 1 + 1 + 1 := by omega
    have t3_0_4 : w.heap.size < wc.heap.size + 1 + 1 + 1 + 1 := by omega
    have t3_0_5 : w.heap.size < wc.heap.size + 1 + 1 + 1 + 1 + 1 := by omega
    have o3_1 : w.heap.size + 1 < wc.heap.size := by omega
    have n3_1 : wc.heap.size ≠ w.heap.size + 1 := by omega
    have t3_1_1 : w.heap.size + 1 < wc.heap.size + 1 := by omega
    have t3_1_2 : w.heap.size + 1 < wc.heap.size + 1 + 1 := by omega
    have t3_1_3 : w.heap.size + 1 < wc.heap.size + 1 + 1 + 1 := by omega
    have t3_1_4 : w.heap.size + 1 < wc.heap.size + 1 + 1 + 1 + 1 := by omega
    have t3_1_5 : w.heap.size + 1 < wc.heap.size + 1 + 1 + 1 + 1 + 1 := by omega
    have o3_2 : w2.heap.size < wc.heap.size := by omega
    have n3_2 : wc.heap.size ≠ w2.heap.size := by omega
    have t3_2_1 : w2.heap.size < wc.heap.size + 1 := by omega
    have t3_2_2 : w2.heap.size < wc.heap.size + 1 + 1 := by omega
    have t3_2_3 : w2.heap.size < wc.heap.size + 1 + 1 + 1 := by omega
    have t3_2_4 : w2.heap.size < wc.heap.size + 1 + 1 + 1 + 1 := by omega
    have t3_2_5 : w2.heap.size < wc.heap.size + 1 + 1 + 1 + 1 + 1 := by omega
    have b3 : w.heap.size ≤ wc.heap.size := by omega
    go_wp2_with fail
    refine (place_is _ _ _ _ c _ hp).mono ?_
    rintro e w4 ⟨rfl, hbw4⟩
    have z4 := hbw4.size
    try simp at z4
    have c4_0 : w4.cell? ⟨w.heap.size, 0, none⟩ = some (.int .i64 o) := by rw [(bcell hbw4).1 _ _ (by first | (simp; done) | (simp; omega) | omega)]; simp [go_sem, World.cell?_alloc_past, *]
    have c4_1 : w4.cell? ⟨w.heap.size, 1, none⟩ = some (.int .i64 h) := by rw [(bcell hbw4).1 _ _ (by first | (simp; done) | (simp; omega) | omega)]; simp [go_sem, World.cell?_alloc_past, *]
    have c4_2 : w4.cell? ⟨w.heap.size + 1, 0, none⟩ = some (.int .i64 a) := by rw [(bcell hbw4).1 _ _ (by first | (simp; done) | (simp; omega) | omega)]; simp [go_sem, World.cell?_alloc_past, *]
    have c4_3 : w4.cell? ⟨w.heap.size + 1, 1, none⟩ = some (.int .i64 b) := by rw [(bcell hbw4).1 _ _ (by first | (simp; done) | (simp; omega) | omega)]; simp [go_sem, World.cell?_alloc_past, *]
    have c4_4 : w4.cell? ⟨w2.heap.size, 0, none⟩ = some (.int .i64 0) := by rw [(bcell hbw4).1 _ _ (by first | (simp; done) | (simp; omega) | omega)]; simp [go_sem, World.cell?_alloc_past, *]
    have c4_5 : w4.cell? ⟨w2.heap.size, 1, none⟩ = some (.int .i64 0) := by rw [(bcell hbw4).1 _ _ (by first | (simp; done) | (simp; omega) | omega)]; simp [go_sem, World.cell?_alloc_past, *]
    have hB4 : Below w.heap.size w w4 := (by (repeat (first | (with_reducible refine Below.drew ?_) | (with_reducible refine below_drewN ?_ _) | (with_reducible refine Below.alloc ?_ (by first | omega | (simp; done) | (simp; omega) | (simp at *; omega)) _) | (with_reducible refine Below.setCell ?_ (by first | omega | (simp; done) | (simp; omega) | (simp at *; omega)) _) | (with_reducible exact Below.refl _ _) | (with_reducible assumption) | (with_reducible refine Below.trans ?_ (Below.mono (by assumption) (by first | omega | (simp; done) | (simp; omega) | (simp at *; omega)))))))
    clear c3_0 c3_1 c3_2 c3_3 c3_4 c3_5 o3_0 n3_0 t3_0_1 t3_0_2 t3_0_3 t3_0_4 t3_0_5 o3_1 n3_1 t3_1_1 t3_1_2 t3_1_3 t3_1_4 t3_1_5 o3_2 n3_2 t3_2_1 t3_2_2 t3_2_3 t3_2_4 t3_2_5
    have o4_0 : w.heap.size < w4.heap.size := by omega
    have n4_0 : w4.heap.size ≠ w.heap.size := by omega
    have t4_0_1 : w.heap.size < w4.heap.size + 1 := by omega
    have t4_0_2 : w.heap.size < w4.heap.size + 1 + 1 := by omega
    have t4_0_3 : w.heap.size < w4.heap.size + 1 + 1 + 1 := by omega
    have t4_0_4 : w.heap.size < w4.heap.size + 1 + 1 + 1 + 1 := by omega
    have t4_0_5 : w.heap.size < w4.heap.size + 1 + 1 + 1 + 1 + 1 := by omega
    have o4_1 : w.heap.size + 1 < w4.heap.size := by omega
    have n4_1 : w4.heap.size ≠ w.heap.size + 1 := by omega
    have t4_1_1 : w.heap.size + 1 < w4.heap.size + 1 := by omega
    have t4_1_2 : w.heap.size + 1 < w4.heap.size + 1 + 1 := by omega
    have t4_1_3 : w.heap.size + 1 < w4.heap.size + 1 + 1 + 1 := by omega
    have t4_1_4 : w.heap.size + 1 < w4.heap.size + 1 + 1 + 1 + 1 := by omega
    have t4_1_5 : w.heap.size + 1 < w4.heap.size + 1 + 1 + 1 + 1 + 1 := by omega
    have o4_2 : w2.heap.size < w4.heap.size := by omega
    have n4_2 : w4.heap.size ≠ w2.heap.size := by omega
    have t4_2_1 : w2.heap.size < w4.heap.size + 1 := by omega
    have t4_2_2 : w2.heap.size < w4.heap.size + 1 + 1 := by omega
    have t4_2_3 : w2.heap.size < w4.heap.size + 1 + 1 + 1 := by omega
    have t4_2_4 : w2.heap.size < w4.heap.size + 1 + 1 + 1 + 1 := by omega
    have t4_2_5 : w2.heap.size < w4.heap.size + 1 + 1 + 1 + 1 + 1 := by omega
    have b4 : w.heap.size ≤ w4.heap.size := by omega
    clear hbw4
    go_wp2
    go_ret
    exact ⟨rfl, (by (repeat (first | (with_reducible refine Below.drew ?_) | (with_reducible refine below_drewN ?_ _) | (with_reducible refine Below.alloc ?_ (by first | omega | (simp; done) | (simp; omega) | (simp at *; omega)) _) | (with_reducible refine Below.setCell ?_ (by first | omega | (simp; done) | (simp; omega) | (simp at *; omega)) _) | (with_reducible exact Below.refl _ _) | (with_reducible assumption) | (with_reducible refine Below.trans ?_ (Below.mono (by assumption) (by first | omega | (simp; done) | (simp; omega) | (simp at *; omega)))))))⟩
set_option maxRecDepth 100000 in
set_option maxHeartbeats 2000000 in
theorem dlaw_l (o h s a b : Int) (w : World) (m : Int) (hm : w.cell? ⟨1, 0, none⟩ = some (.int .i64 m)) (c : Int) (hp : Hid (eqE o h s 0 = 0)) (hlm : Hid (limE a b = c)) (hc : (c != 0) = true) (hd : Hid (depE o h s a b = c)) (h0 : Hid (depL o h s a b = 0)) (h1 : Hid (depH o h s a b = 0)) :
    Calls Tryd.prog 5 #[.agg #[.int .i64 o, .int .i64 h], .int .i64 s, .agg #[.int .i64 a, .int .i64 b]] w fun e w' => e = .returned (.bool true) ∧ Below w.heap.size w w' := by
  have hl := World.block_lt_of_cell? _ _ hm
  have hne : w.heap.size ≠ 1 := by simp at hl; omega
  have hl2 : 1 < w.heap.size := by simpa using hl
  go_enter Tryd.func5, Tryd.ntmps5
  go_wp2_with fail
  refine (awake_any _ m (by exact oldCell (by (repeat (first | (with_reducible refine Below.drew ?_) | (with_reducible refine below_drewN ?_ _) | (with_reducible refine Below.alloc ?_ (by first | omega | (simp; done) | (simp; omega) | (simp at *; omega)) _) | (with_reducible refine Below.setCell ?_ (by first | omega | (simp; done) | (simp; omega) | (simp at *; omega)) _) | (with_reducible exact Below.refl _ _) | (with_reducible assumption) | (with_reducible refine Below.trans ?_ (Below.mono (by assumption) (by first | omega | (simp; done) | (simp; omega) | (simp at *; omega))))))) hm)).mono ?_
  rintro e w1 ⟨rfl, hbw1⟩
  have z1 := hbw1.size
  try simp at z1
  have c1_0 : w1.cell? ⟨w.heap.size, 0, none⟩ = some (.int .i64 o) := by rw [(bcell hbw1).1 _ _ (by first | (simp; done) | (simp; omega) | omega)]; simp [go_sem, World.cell?_alloc_past, *]
  have c1_1 : w1.cell? ⟨w.heap.size, 1, none⟩ = some (.int .i64 h) := by rw [(bcell hbw1).1 _ _ (by first | (simp; done) | (simp; omega) | omega)]; simp [go_sem, World.cell?_alloc_past, *]
  have c1_2 : w1.cell? ⟨w.heap.size + 1, 0, none⟩ = some (.int .i64 a) := by rw [(bcell hbw1).1 _ _ (by first | (simp; done) | (simp; omega) | omega)]; simp [go_sem, World.cell?_alloc_past, *]
  have c1_3 : w1.cell? ⟨w.heap.size + 1, 1, none⟩ = some (.int .i64 b) := by rw [(bcell hbw1).1 _ _ (by first | (simp; done) | (simp; omega) | omega)]; simp [go_sem, World.cell?_alloc_past, *]
  have hB1 : Below w.heap.size w w1 := (by (repeat (first | (with_reducible refine Below.drew ?_) | (with_reducible refine below_drewN ?_ _) | (with_reducible refine Below.alloc ?_ (by first | omega | (simp; done) | (simp; omega) | (simp at *; omega)) _) | (with_reducible refine Below.setCell ?_ (by first | omega | (simp; done) | (simp; omega) | (simp at *; omega)) _) | (with_reducible exact Below.refl _ _) | (with_reducible assumption) | (with_reducible refine Below.trans ?_ (Below.mono (by assumption) (by first | omega | (simp; done) | (simp; omega) | (simp at *; omega)))))))
  have o1_0 : w.heap.size < w1.heap.size := by omega
  have n1_0 : w1.heap.size ≠ w.heap.size := by omega
  have t1_0_1 : w.heap.size < w1.heap.size + 1 := by omega
  have t1_0_2 : w.heap.size < w1.heap.size + 1 + 1 := by omega
  have t1_0_3 : w.heap.size < w1.heap.size + 1 + 1 + 1 := by omega
  have t1_0_4 : w.heap.size < w1.heap.size + 1 + 1 + 1 + 1 := by omega
  have t1_0_5 : w.heap.size < w1.heap.size + 1 + 1 + 1 + 1 + 1 := by omega
  have o1_1 : w.heap.size + 1 < w1.heap.size := by omega
  have n1_1 : w1.heap.size ≠ w.heap.size + 1 := by omega
  have t1_1_1 : w.heap.size + 1 < w1.heap.size + 1 := by omega
  have t1_1_2 : w.heap.size + 1 < w1.heap.size + 1 + 1 := by omega
  have t1_1_3 : w.heap.size + 1 < w1.heap.size + 1 + 1 + 1 := by omega
  have t1_1_4 : w.heap.size + 1 < w1.heap.size + 1 + 1 + 1 + 1 := by omega
  have t1_1_5 : w.heap.size + 1 < w1.heap.size + 1 + 1 + 1 + 1 + 1 := by omega
  have b1 : w.heap.size ≤ w1.heap.size := by omega
  clear hbw1
  go_wp2_with fail
  refine (DepthsFor_is _ _ _ _ _ 0 0 c _ h0 h1 hd).mono ?_
  rintro e w2 ⟨rfl, hbw2⟩
  have z2 := hbw2.size
  try simp at z2
  have c2_0 : w2.cell? ⟨w.heap.size, 0, none⟩ = some (.int .i64 o) := by rw [(bcell hbw2).1 _ _ (by first | (simp; done) | (simp; omega) | omega)]; simp [go_sem, World.cell?_alloc_past, *]
  have c2_1 : w2.cell? ⟨w.heap.size, 1, none⟩ = some (.int .i64 h) := by rw [(bcell hbw2).1 _ _ (by first | (simp; done) | (simp; omega) | omega)]; simp [go_sem, World.cell?_alloc_past, *]
  have c2_2 : w2.cell? ⟨w.heap.size + 1, 0, none⟩ = some (.int .i64 a) := by rw [(bcell hbw2).1 _ _ (by first | (simp; done) | (simp; omega) | omega)]; simp [go_sem, World.cell?_alloc_past, *]
  have c2_3 : w2.cell? ⟨w.heap.size + 1, 1, none⟩ = some (.int .i64 b) := by rw [(bcell hbw2).1 _ _ (by first | (simp; done) | (simp; omega) | omega)]; simp [go_sem, World.cell?_alloc_past, *]
  have hB2 : Below w.heap.size w w2 := (by (repeat (first | (with_reducible refine Below.drew ?_) | (with_reducible refine below_drewN ?_ _) | (with_reducible refine Below.alloc ?_ (by first | omega | (simp; done) | (simp; omega) | (simp at *; omega)) _) | (with_reducible refine Below.setCell ?_ (by first | omega | (simp; done) | (simp; omega) | (simp at *; omega)) _) | (with_reducible exact Below.refl _ _) | (with_reducible assumption) | (with_reducible refine Below.trans ?_ (Below.mono (by assumption) (by first | omega | (simp; done) | (simp; omega) | (simp at *; omega)))))))
  clear c1_0 c1_1 c1_2 c1_3 o1_0 n1_0 t1_0_1 t1_0_2 t1_0_3 t1_0_4 t1_0_5 o1_1 n1_1 t1_1_1 t1_1_2 t1_1_3 t1_1_4 t1_1_5
  have o2_0 : w.heap.size < w2.heap.size := by omega
  have n2_0 : w2.heap.size ≠ w.heap.size := by omega
  have t2_0_1 : w.heap.size < w2.heap.size + 1 := by omega
  have t2_0_2 : w.heap.size < w2.heap.size + 1 + 1 := by omega
  have t2_0_3 : w.heap.size < w2.heap.size + 1 + 1 + 1 := by omega
  have t2_0_4 : w.heap.size < w2.heap.size + 1 + 1 + 1 + 1 := by omega
  have t2_0_5 : w.heap.size < w2.heap.size + 1 + 1 + 1 + 1 + 1 := by omega
  have o2_1 : w.heap.size + 1 < w2.heap.size := by omega
  have n2_1 : w2.heap.size ≠ w.heap.size + 1 := by omega
  have t2_1_1 : w.heap.size + 1 < w2.heap.size + 1 := by omega
  have t2_1_2 : w.heap.size + 1 < w2.heap.size + 1 + 1 := by omega
  have t2_1_3 : w.heap.size + 1 < w2.heap.size + 1 + 1 + 1 := by omega
  have t2_1_4 : w.heap.size + 1 < w2.heap.size + 1 + 1 + 1 + 1 := by omega
  have t2_1_5 : w.heap.size + 1 < w2.heap.size + 1 + 1 + 1 + 1 + 1 := by omega
  have b2 : w.heap.size ≤ w2.heap.size := by omega
  clear hbw2
  go_upto_region 4 with (fail)
  go_cut [25] from 12 (fun s25 wx => s25 = .bool false ∧ Below w.heap.size w wx ∧ w2.heap.size + 1 ≤ wx.heap.size ∧ wx.cell? ⟨w.heap.size, 0, none⟩ = some (.int .i64 o) ∧ wx.cell? ⟨w.heap.size, 1, none⟩ = some (.int .i64 h) ∧ wx.cell? ⟨w.heap.size + 1, 0, none⟩ = some (.int .i64 a) ∧ wx.cell? ⟨w.heap.size + 1, 1, none⟩ = some (.int .i64 b) ∧ wx.cell? ⟨w2.heap.size, 0, none⟩ = some (.int .i64 0) ∧ wx.cell? ⟨w2.heap.size, 1, none⟩ = some (.int .i64 0))
  case first =>
    go_region_held3 (fun w' => w'.cell? ⟨w.heap.size + 1, 0, none⟩ = some (.int .i64 a) ∧ w'.cell? ⟨w.heap.size + 1, 1, none⟩ = some (.int .i64 b)) (simp [go_sem, World.cell?_alloc_past, *])
      (first
        | (go_at_call 30; ((with_reducible refine (CheckLimits_is _ _ c _ hlm).mono ?_)); rintro e w' ⟨rfl, rfl⟩)
        | (go_at_call 31; ((with_reducible refine (refCheckLimits_is _ _ c _ hlm).mono ?_)); rintro e w' ⟨rfl, rfl⟩))
    all_goals (go_wp2_with fail; go_meet; exact ⟨rfl, (by (repeat (first | (with_reducible refine Below.drew ?_) | (with_reducible refine below_drewN ?_ _) | (with_reducible refine Below.alloc ?_ (by first | omega | (simp; done) | (simp; omega) | (simp at *; omega)) _) | (with_reducible refine Below.setCell ?_ (by first | omega | (simp; done) | (simp; omega) | (simp at *; omega)) _) | (with_reducible exact Below.refl _ _) | (with_reducible assumption) | (with_reducible refine Below.trans ?_ (Below.mono (by assumption) (by first | omega | (simp; done) | (simp; omega) | (simp at *; omega))))))), (by first | (simp; done) | (simp; omega) | omega), (by simp [go_sem, World.cell?_alloc_past, *]), (by simp [go_sem, World.cell?_alloc_past, *]), (by simp [go_sem, World.cell?_alloc_past, *]), (by simp [go_sem, World.cell?_alloc_past, *]), (by simp [go_sem, World.cell?_alloc_past, *]), (by simp [go_sem, World.cell?_alloc_past, *])⟩)
  case rest =>
    obtain ⟨rfl, hB3, z3, c3_0, c3_1, c3_2, c3_3, c3_4, c3_5⟩ := hcut
    clear c2_0 c2_1 c2_2 c2_3 o2_0 n2_0 t2_0_1 t2_0_2 t2_0_3 t2_0_4 t2_0_5 o2_1 n2_1 t2_1_1 t2_1_2 t2_1_3 t2_1_4 t2_1_5
    have o3_0 : w.heap.size < wc.heap.size := by omega
    have n3_0 : wc.heap.size ≠ w.heap.size := by omega
    have t3_0_1 : w.heap.size < wc.heap.size + 1 := by omega
    have t3_0_2 : w.heap.size < wc.heap.size + 1 + 1 := by omega
    have t3_0_3 : w.heap.size < wc.heap.size + 1 + 1 + 1 := by omega
    have t3_0_4 : w.heap.size < wc.heap.size + 1 + 1 + 1 + 1 := by omega
    have t3_0_5 : w.heap.size < wc.heap.size + 1 + 1 + 1 + 1 + 1 := by omega
    have o3_1 : w.heap.size + 1 < wc.heap.size := by omega
    have n3_1 : wc.heap.size ≠ w.heap.size + 1 := by omega
    have t3_1_1 : w.heap.size + 1 < wc.heap.size + 1 := by omega
    have t3_1_2 : w.heap.size + 1 < wc.heap.size + 1 + 1 := by omega
    have t3_1_3 : w.heap.size + 1 < wc.heap.size + 1 + 1 + 1 := by omega
    have t3_1_4 : w.heap.size + 1 < wc.heap.size + 1 + 1 + 1 + 1 := by omega
    have t3_1_5 : w.heap.size + 1 < wc.heap.size + 1 + 1 + 1 + 1 + 1 := by omega
    have o3_2 : w2.heap.size < wc.heap.size := by omega
    have n3_2 : wc.heap.size ≠ w2.heap.size := by omega
    have t3_2_1 : w2.heap.size < wc.heap.size + 1 := by omega
    have t3_2_2 : w2.heap.size < wc.heap.size + 1 + 1 := by omega
    have t3_2_3 : w2.heap.size < wc.heap.size + 1 + 1 + 1 := by omega
    have t3_2_4 : w2.heap.size < wc.heap.size + 1 + 1 + 1 + 1 := by omega
    have t3_2_5 : w2.heap.size < wc.heap.size + 1 + 1 + 1 + 1 + 1 := by omega
    have b3 : w.heap.size ≤ wc.heap.size := by omega
    go_wp2_with fail
    refine (place_is _ _ _ _ 0 _ hp).mono ?_
    rintro e w4 ⟨rfl, hbw4⟩
    have z4 := hbw4.size
    try simp at z4
    have c4_0 : w4.cell? ⟨w.heap.size, 0, none⟩ = some (.int .i64 o) := by rw [(bcell hbw4).1 _ _ (by first | (simp; done) | (simp; omega) | omega)]; simp [go_sem, World.cell?_alloc_past, *]
    have c4_1 : w4.cell? ⟨w.heap.size, 1, none⟩ = some (.int .i64 h) := by rw [(bcell hbw4).1 _ _ (by first | (simp; done) | (simp; omega) | omega)]; simp [go_sem, World.cell?_alloc_past, *]
    have c4_2 : w4.cell? ⟨w.heap.size + 1, 0, none⟩ = some (.int .i64 a) := by rw [(bcell hbw4).1 _ _ (by first | (simp; done) | (simp; omega) | omega)]; simp [go_sem, World.cell?_alloc_past, *]
    have c4_3 : w4.cell? ⟨w.heap.size + 1, 1, none⟩ = some (.int .i64 b) := by rw [(bcell hbw4).1 _ _ (by first | (simp; done) | (simp; omega) | omega)]; simp [go_sem, World.cell?_alloc_past, *]
    have c4_4 : w4.cell? ⟨w2.heap.size, 0, none⟩ = some (.int .i64 0) := by rw [(bcell hbw4).1 _ _ (by first | (simp; done) | (simp; omega) | omega)]; simp [go_sem, World.cell?_alloc_past, *]
    have c4_5 : w4.cell? ⟨w2.heap.size, 1, none⟩ = some (.int .i64 0) := by rw [(bcell hbw4).1 _ _ (by first | (simp; done) | (simp; omega) | omega)]; simp [go_sem, World.cell?_alloc_past, *]
    have hB4 : Below w.heap.size w w4 := (by (repeat (first | (with_reducible refine Below.drew ?_) | (with_reducible refine below_drewN ?_ _) | (with_reducible refine Below.alloc ?_ (by first | omega | (simp; done) | (simp; omega) | (simp at *; omega)) _) | (with_reducible refine Below.setCell ?_ (by first | omega | (simp; done) | (simp; omega) | (simp at *; omega)) _) | (with_reducible exact Below.refl _ _) | (with_reducible assumption) | (with_reducible refine Below.trans ?_ (Below.mono (by assumption) (by first | omega | (simp; done) | (simp; omega) | (simp at *; omega)))))))
    clear c3_0 c3_1 c3_2 c3_3 c3_4 c3_5 o3_0 n3_0 t3_0_1 t3_0_2 t3_0_3 t3_0_4 t3_0_5 o3_1 n3_1 t3_1_1 t3_1_2 t3_1_3 t3_1_4 t3_1_5 o3_2 n3_2 t3_2_1 t3_2_2 t3_2_3 t3_2_4 t3_2_5
    have o4_0 : w.heap.size < w4.heap.size := by omega
    have n4_0 : w4.heap.size ≠ w.heap.size := by omega
    have t4_0_1 : w.heap.size < w4.heap.size + 1 := by omega
    have t4_0_2 : w.heap.size < w4.heap.size + 1 + 1 := by omega
    have t4_0_3 : w.heap.size < w4.heap.size + 1 + 1 + 1 := by omega
    have t4_0_4 : w.heap.size < w4.heap.size + 1 + 1 + 1 + 1 := by omega
    have t4_0_5 : w.heap.size < w4.heap.size + 1 + 1 + 1 + 1 + 1 := by omega
    have o4_1 : w.heap.size + 1 < w4.heap.size := by omega
    have n4_1 : w4.heap.size ≠ w.heap.size + 1 := by omega
    have t4_1_1 : w.heap.size + 1 < w4.heap.size + 1 := by omega
    have t4_1_2 : w.heap.size + 1 < w4.heap.size + 1 + 1 := by omega
    have t4_1_3 : w.heap.size + 1 < w4.heap.size + 1 + 1 + 1 := by omega
    have t4_1_4 : w.heap.size + 1 < w4.heap.size + 1 + 1 + 1 + 1 := by omega
    have t4_1_5 : w.heap.size + 1 < w4.heap.size + 1 + 1 + 1 + 1 + 1 := by omega
    have o4_2 : w2.heap.size < w4.heap.size := by omega
    have n4_2 : w4.heap.size ≠ w2.heap.size := by omega
    have t4_2_1 : w2.heap.size < w4.heap.size + 1 := by omega
    have t4_2_2 : w2.heap.size < w4.heap.size + 1 + 1 := by omega
    have t4_2_3 : w2.heap.size < w4.heap.size + 1 + 1 + 1 := by omega
    have t4_2_4 : w2.heap.size < w4.heap.size + 1 + 1 + 1 + 1 := by omega
    have t4_2_5 : w2.heap.size < w4.heap.size + 1 + 1 + 1 + 1 + 1 := by omega
    have b4 : w.heap.size ≤ w4.heap.size := by omega
    clear hbw4
    go_wp2_with ((go_at_call 31; ((with_reducible refine (refCheckLimits_is _ _ c _ hlm).mono ?_)); rintro e w' ⟨rfl, rfl⟩))
    go_ret
    exact ⟨rfl, (by (repeat (first | (with_reducible refine Below.drew ?_) | (with_reducible refine below_drewN ?_ _) | (with_reducible refine Below.alloc ?_ (by first | omega | (simp; done) | (simp; omega) | (simp at *; omega)) _) | (with_reducible refine Below.setCell ?_ (by first | omega | (simp; done) | (simp; omega) | (simp at *; omega)) _) | (with_reducible exact Below.refl _ _) | (with_reducible assumption) | (with_reducible refine Below.trans ?_ (Below.mono (by assumption) (by first | omega | (simp; done) | (simp; omega) | (simp at *; omega)))))))⟩
set_option maxRecDepth 100000 in
set_option maxHeartbeats 2000000 in
theorem dlaw_n (o h s a b : Int) (w : World) (m : Int) (hm : w.cell? ⟨1, 0, none⟩ = some (.int .i64 m)) (x y : Int) (hp : Hid (eqE o h s 0 = 0)) (hlm : Hid (limE a b = 0)) (hd : Hid (depE o h s a b = 12)) (h0 : Hid (depL o h s a b = 0)) (h1 : Hid (depH o h s a b = 0)) (hr : Hid (∀ w, Calls Tryd.prog 33 #[.agg #[.int .i64 o, .int .i64 h], .int .i64 s, .agg #[.int .i64 a, .int .i64 b]] w fun e w' => e = .returned (.tuple #[.agg #[.int .i64 x, .int .i64 y], .bool false]) ∧ Below w.heap.size w w')) :
    Calls Tryd.prog 5 #[.agg #[.int .i64 o, .int .i64 h], .int .i64 s, .agg #[.int .i64 a, .int .i64 b]] w fun e w' => e = .returned (.bool true) ∧ Below w.heap.size w w' := by
  have hl := World.block_lt_of_cell? _ _ hm
  have hne : w.heap.size ≠ 1 := by simp at hl; omega
  have hl2 : 1 < w.heap.size := by simpa using hl
  go_enter Tryd.func5, Tryd.ntmps5
  go_wp2_with fail
  refine (awake_any _ m (by exact oldCell (by (repeat (first | (with_reducible refine Below.drew ?_) | (with_reducible refine below_drewN ?_ _) | (with_reducible refine Below.alloc ?_ (by first | omega | (simp; done) | (simp; omega) | (simp at *; omega)) _) | (with_reducible refine Below.setCell ?_ (by first | omega | (simp; done) | (simp; omega) | (simp at *; omega)) _) | (with_reducible exact Below.refl _ _) | (with_reducible assumption) | (with_reducible refine Below.trans ?_ (Below.mono (by assumption) (by first | omega | (simp; done) | (simp; omega) | (simp at *; omega))))))) hm)).mono ?_
  rintro e w1 ⟨rfl, hbw1⟩
  have z1 := hbw1.size
  try simp at z1
  have c1_0 : w1.cell? ⟨w.heap.size, 0, none⟩ = some (.int .i64 o) := by rw [(bcell hbw1).1 _ _ (by first | (simp; done) | (simp; omega) | omega)]; simp [go_sem, World.cell?_alloc_past, *]
  have c1_1 : w1.cell? ⟨w.heap.size, 1, none⟩ = some (.int .i64 h) := by rw [(bcell hbw1).1 _ _ (by first | (simp; done) | (simp; omega) | omega)]; simp [go_sem, World.cell?_alloc_past, *]
  have c1_2 : w1.cell? ⟨w.heap.size + 1, 0, none⟩ = some (.int .i64 a) := by rw [(bcell hbw1).1 _ _ (by first | (simp; done) | (simp; omega) | omega)]; simp [go_sem, World.cell?_alloc_past, *]
  have c1_3 : w1.cell? ⟨w.heap.size + 1, 1, none⟩ = some (.int .i64 b) := by rw [(bcell hbw1).1 _ _ (by first | (simp; done) | (simp; omega) | omega)]; simp [go_sem, World.cell?_alloc_past, *]
  have hB1 : Below w.heap.size w w1 := (by (repeat (first | (with_reducible refine Below.drew ?_) | (with_reducible refine below_drewN ?_ _) | (with_reducible refine Below.alloc ?_ (by first | omega | (simp; done) | (simp; omega) | (simp at *; omega)) _) | (with_reducible refine Below.setCell ?_ (by first | omega | (simp; done) | (simp; omega) | (simp at *; omega)) _) | (with_reducible exact Below.refl _ _) | (with_reducible assumption) | (with_reducible refine Below.trans ?_ (Below.mono (by assumption) (by first | omega | (simp; done) | (simp; omega) | (simp at *; omega)))))))
  have o1_0 : w.heap.size < w1.heap.size := by omega
  have n1_0 : w1.heap.size ≠ w.heap.size := by omega
  have t1_0_1 : w.heap.size < w1.heap.size + 1 := by omega
  have t1_0_2 : w.heap.size < w1.heap.size + 1 + 1 := by omega
  have t1_0_3 : w.heap.size < w1.heap.size + 1 + 1 + 1 := by omega
  have t1_0_4 : w.heap.size < w1.heap.size + 1 + 1 + 1 + 1 := by omega
  have t1_0_5 : w.heap.size < w1.heap.size + 1 + 1 + 1 + 1 + 1 := by omega
  have o1_1 : w.heap.size + 1 < w1.heap.size := by omega
  have n1_1 : w1.heap.size ≠ w.heap.size + 1 := by omega
  have t1_1_1 : w.heap.size + 1 < w1.heap.size + 1 := by omega
  have t1_1_2 : w.heap.size + 1 < w1.heap.size + 1 + 1 := by omega
  have t1_1_3 : w.heap.size + 1 < w1.heap.size + 1 + 1 + 1 := by omega
  have t1_1_4 : w.heap.size + 1 < w1.heap.size + 1 + 1 + 1 + 1 := by omega
  have t1_1_5 : w.heap.size + 1 < w1.heap.size + 1 + 1 + 1 + 1 + 1 := by omega
  have b1 : w.heap.size ≤ w1.heap.size := by omega
  clear hbw1
  go_wp2_with fail
  refine (DepthsFor_is _ _ _ _ _ 0 0 12 _ h0 h1 hd).mono ?_
  rintro e w2 ⟨rfl, hbw2⟩
  have z2 := hbw2.size
  try simp at z2
  have c2_0 : w2.cell? ⟨w.heap.size, 0, none⟩ = some (.int .i64 o) := by rw [(bcell hbw2).1 _ _ (by first | (simp; done) | (simp; omega) | omega)]; simp [go_sem, World.cell?_alloc_past, *]
  have c2_1 : w2.cell? ⟨w.heap.size, 1, none⟩ = some (.int .i64 h) := by rw [(bcell hbw2).1 _ _ (by first | (simp; done) | (simp; omega) | omega)]; simp [go_sem, World.cell?_alloc_past, *]
  have c2_2 : w2.cell? ⟨w.heap.size + 1, 0, none⟩ = some (.int .i64 a) := by rw [(bcell hbw2).1 _ _ (by first | (simp; done) | (simp; omega) | omega)]; simp [go_sem, World.cell?_alloc_past, *]
  have c2_3 : w2.cell? ⟨w.heap.size + 1, 1, none⟩ = some (.int .i64 b) := by rw [(bcell hbw2).1 _ _ (by first | (simp; done) | (simp; omega) | omega)]; simp [go_sem, World.cell?_alloc_past, *]
  have hB2 : Below w.heap.size w w2 := (by (repeat (first | (with_reducible refine Below.drew ?_) | (with_reducible refine below_drewN ?_ _) | (with_reducible refine Below.alloc ?_ (by first | omega | (simp; done) | (simp; omega) | (simp at *; omega)) _) | (with_reducible refine Below.setCell ?_ (by first | omega | (simp; done) | (simp; omega) | (simp at *; omega)) _) | (with_reducible exact Below.refl _ _) | (with_reducible assumption) | (with_reducible refine Below.trans ?_ (Below.mono (by assumption) (by first | omega | (simp; done) | (simp; omega) | (simp at *; omega)))))))
  clear c1_0 c1_1 c1_2 c1_3 o1_0 n1_0 t1_0_1 t1_0_2 t1_0_3 t1_0_4 t1_0_5 o1_1 n1_1 t1_1_1 t1_1_2 t1_1_3 t1_1_4 t1_1_5
  have o2_0 : w.heap.size < w2.heap.size := by omega
  have n2_0 : w2.heap.size ≠ w.heap.size := by omega
  have t2_0_1 : w.heap.size < w2.heap.size + 1 := by omega
  have t2_0_2 : w.heap.size < w2.heap.size + 1 + 1 := by omega
  have t2_0_3 : w.heap.size < w2.heap.size + 1 + 1 + 1 := by omega
  have t2_0_4 : w.heap.size < w2.heap.size + 1 + 1 + 1 + 1 := by omega
  have t2_0_5 : w.heap.size < w2.heap.size + 1 + 1 + 1 + 1 + 1 := by omega
  have o2_1 : w.heap.size + 1 < w2.heap.size := by omega
  have n2_1 : w2.heap.size ≠ w.heap.size + 1 := by omega
  have t2_1_1 : w.heap.size + 1 < w2.heap.size + 1 := by omega
  have t2_1_2 : w.heap.size + 1 < w2.heap.size + 1 + 1 := by omega
  have t2_1_3 : w.heap.size + 1 < w2.heap.size + 1 + 1 + 1 := by omega
  have t2_1_4 : w.heap.size + 1 < w2.heap.size + 1 + 1 + 1 + 1 := by omega
  have t2_1_5 : w.heap.size + 1 < w2.heap.size + 1 + 1 + 1 + 1 + 1 := by omega
  have b2 : w.heap.size ≤ w2.heap.size := by omega
  clear hbw2
  go_upto_region 4 with (fail)
  go_cut [25] from 12 (fun s25 wx => s25 = .bool false ∧ Below w.heap.size w wx ∧ w2.heap.size + 1 ≤ wx.heap.size ∧ wx.cell? ⟨w.heap.size, 0, none⟩ = some (.int .i64 o) ∧ wx.cell? ⟨w.heap.size, 1, none⟩ = some (.int .i64 h) ∧ wx.cell? ⟨w.heap.size + 1, 0, none⟩ = some (.int .i64 a) ∧ wx.cell? ⟨w.heap.size + 1, 1, none⟩ = some (.int .i64 b) ∧ wx.cell? ⟨w2.heap.size, 0, none⟩ = some (.int .i64 0) ∧ wx.cell? ⟨w2.heap.size, 1, none⟩ = some (.int .i64 0))
  case first =>
    go_region_held3 (fun w' => w'.cell? ⟨w.heap.size + 1, 0, none⟩ = some (.int .i64 a) ∧ w'.cell? ⟨w.heap.size + 1, 1, none⟩ = some (.int .i64 b)) (simp [go_sem, World.cell?_alloc_past, *])
      (first
        | (go_at_call 30; ((with_reducible refine (CheckLimits_is _ _ 0 _ hlm).mono ?_)); rintro e w' ⟨rfl, rfl⟩)
        | (go_at_call 31; ((with_reducible refine (refCheckLimits_is _ _ 0 _ hlm).mono ?_)); rintro e w' ⟨rfl, rfl⟩))
    all_goals (go_wp2_with fail; go_meet; exact ⟨rfl, (by (repeat (first | (with_reducible refine Below.drew ?_) | (with_reducible refine below_drewN ?_ _) | (with_reducible refine Below.alloc ?_ (by first | omega | (simp; done) | (simp; omega) | (simp at *; omega)) _) | (with_reducible refine Below.setCell ?_ (by first | omega | (simp; done) | (simp; omega) | (simp at *; omega)) _) | (with_reducible exact Below.refl _ _) | (with_reducible assumption) | (with_reducible refine Below.trans ?_ (Below.mono (by assumption) (by first | omega | (simp; done) | (simp; omega) | (simp at *; omega))))))), (by first | (simp; done) | (simp; omega) | omega), (by simp [go_sem, World.cell?_alloc_past, *]), (by simp [go_sem, World.cell?_alloc_past, *]), (by simp [go_sem, World.cell?_alloc_past, *]), (by simp [go_sem, World.cell?_alloc_past, *]), (by simp [go_sem, World.cell?_alloc_past, *]), (by simp [go_sem, World.cell?_alloc_past, *])⟩)
  case rest =>
    obtain ⟨rfl, hB3, z3, c3_0, c3_1, c3_2, c3_3, c3_4, c3_5⟩ := hcut
    clear c2_0 c2_1 c2_2 c2_3 o2_0 n2_0 t2_0_1 t2_0_2 t2_0_3 t2_0_4 t2_0_5 o2_1 n2_1 t2_1_1 t2_1_2 t2_1_3 t2_1_4 t2_1_5
    have o3_0 : w.heap.size < wc.heap.size := by omega
    have n3_0 : wc.heap.size ≠ w.heap.size := by omega
    have t3_0_1 : w.heap.size < wc.heap.size + 1 := by omega
    have t3_0_2 : w.heap.size < wc.heap.size + 1 + 1 := by omega
    have t3_0_3 : w.heap.size < wc.heap.size + 1 + 1 + 1 := by omega
    have t3_0_4 : w.heap.size < wc.heap.size + 1 + 1 + 1 + 1 := by omega
    have t3_0_5 : w.heap.size < wc.heap.size + 1 + 1 + 1 + 1 + 1 := by omega
    have o3_1 : w.heap.size + 1 < wc.heap.size := by omega
    have n3_1 : wc.heap.size ≠ w.heap.size + 1 := by omega
    have t3_1_1 : w.heap.size + 1 < wc.heap.size + 1 := by omega
    have t3_1_2 : w.heap.size + 1 < wc.heap.size + 1 + 1 := by omega
    have t3_1_3 : w.heap.size + 1 < wc.heap.size + 1 + 1 + 1 := by omega
    have t3_1_4 : w.heap.size + 1 < wc.heap.size + 1 + 1 + 1 + 1 := by omega
    have t3_1_5 : w.heap.size + 1 < wc.heap.size + 1 + 1 + 1 + 1 + 1 := by omega
    have o3_2 : w2.heap.size < wc.heap.size := by omega
    have n3_2 : wc.heap.size ≠ w2.heap.size := by omega
    have t3_2_1 : w2.heap.size < wc.heap.size + 1 := by omega
    have t3_2_2 : w2.heap.size < wc.heap.size + 1 + 1 := by omega
    have t3_2_3 : w2.heap.size < wc.heap.size + 1 + 1 + 1 := by omega
    have t3_2_4 : w2.heap.size < wc.heap.size + 1 + 1 + 1 + 1 := by omega
    have t3_2_5 : w2.heap.size < wc.heap.size + 1 + 1 + 1 + 1 + 1 := by omega
    have b3 : w.heap.size ≤ wc.heap.size := by omega
    go_wp2_with fail
    refine (place_is _ _ _ _ 0 _ hp).mono ?_
    rintro e w4 ⟨rfl, hbw4⟩
    have z4 := hbw4.size
    try simp at z4
    have c4_0 : w4.cell? ⟨w.heap.size, 0, none⟩ = some (.int .i64 o) := by rw [(bcell hbw4).1 _ _ (by first | (simp; done) | (simp; omega) | omega)]; simp [go_sem, World.cell?_alloc_past, *]
    have c4_1 : w4.cell? ⟨w.heap.size, 1, none⟩ = some (.int .i64 h) := by rw [(bcell hbw4).1 _ _ (by first | (simp; done) | (simp; omega) | omega)]; simp [go_sem, World.cell?_alloc_past, *]
    have c4_2 : w4.cell? ⟨w.heap.size + 1, 0, none⟩ = some (.int .i64 a) := by rw [(bcell hbw4).1 _ _ (by first | (simp; done) | (simp; omega) | omega)]; simp [go_sem, World.cell?_alloc_past, *]
    have c4_3 : w4.cell? ⟨w.heap.size + 1, 1, none⟩ = some (.int .i64 b) := by rw [(bcell hbw4).1 _ _ (by first | (simp; done) | (simp; omega) | omega)]; simp [go_sem, World.cell?_alloc_past, *]
    have c4_4 : w4.cell? ⟨w2.heap.size, 0, none⟩ = some (.int .i64 0) := by rw [(bcell hbw4).1 _ _ (by first | (simp; done) | (simp; omega) | omega)]; simp [go_sem, World.cell?_alloc_past, *]
    have c4_5 : w4.cell? ⟨w2.heap.size, 1, none⟩ = some (.int .i64 0) := by rw [(bcell hbw4).1 _ _ (by first | (simp; done) | (simp; omega) | omega)]; simp [go_sem, World.cell?_alloc_past, *]
    have hB4 : Below w.heap.size w w4 := (by (repeat (first | (with_reducible refine Below.drew ?_) | (with_reducible refine below_drewN ?_ _) | (with_reducible refine Below.alloc ?_ (by first | omega | (simp; done) | (simp; omega) | (simp at *; omega)) _) | (with_reducible refine Below.setCell ?_ (by first | omega | (simp; done) | (simp; omega) | (simp at *; omega)) _) | (with_reducible exact Below.refl _ _) | (with_reducible assumption) | (with_reducible refine Below.trans ?_ (Below.mono (by assumption) (by first | omega | (simp; done) | (simp; omega) | (simp at *; omega)))))))
    clear c3_0 c3_1 c3_2 c3_3 c3_4 c3_5 o3_0 n3_0 t3_0_1 t3_0_2 t3_0_3 t3_0_4 t3_0_5 o3_1 n3_1 t3_1_1 t3_1_2 t3_1_3 t3_1_4 t3_1_5 o3_2 n3_2 t3_2_1 t3_2_2 t3_2_3 t3_2_4 t3_2_5
    have o4_0 : w.heap.size < w4.heap.size := by omega
    have n4_0 : w4.heap.size ≠ w.heap.size := by omega
    have t4_0_1 : w.heap.size < w4.heap.size + 1 := by omega
    have t4_0_2 : w.heap.size < w4.heap.size + 1 + 1 := by omega
    have t4_0_3 : w.heap.size < w4.heap.size + 1 + 1 + 1 := by omega
    have t4_0_4 : w.heap.size < w4.heap.size + 1 + 1 + 1 + 1 := by omega
    have t4_0_5 : w.heap.size < w4.heap.size + 1 + 1 + 1 + 1 + 1 := by omega
    have o4_1 : w.heap.size + 1 < w4.heap.size := by omega
    have n4_1 : w4.heap.size ≠ w.heap.size + 1 := by omega
    have t4_1_1 : w.heap.size + 1 < w4.heap.size + 1 := by omega
    have t4_1_2 : w.heap.size + 1 < w4.heap.size + 1 + 1 := by omega
    have t4_1_3 : w.heap.size + 1 < w4.heap.size + 1 + 1 + 1 := by omega
    have t4_1_4 : w.heap.size + 1 < w4.heap.size + 1 + 1 + 1 + 1 := by omega
    have t4_1_5 : w.heap.size + 1 < w4.heap.size + 1 + 1 + 1 + 1 + 1 := by omega
    have o4_2 : w2.heap.size < w4.heap.size := by omega
    have n4_2 : w4.heap.size ≠ w2.heap.size := by omega
    have t4_2_1 : w2.heap.size < w4.heap.size + 1 := by omega
    have t4_2_2 : w2.heap.size < w4.heap.size + 1 + 1 := by omega
    have t4_2_3 : w2.heap.size < w4.heap.size + 1 + 1 + 1 := by omega
    have t4_2_4 : w2.heap.size < w4.heap.size + 1 + 1 + 1 + 1 := by omega
    have t4_2_5 : w2.heap.size < w4.heap.size + 1 + 1 + 1 + 1 + 1 := by omega
    have b4 : w.heap.size ≤ w4.heap.size := by omega
    clear hbw4
    go_wp2_with ((go_at_call 31; ((with_reducible refine (refCheckLimits_is _ _ 0 _ hlm).mono ?_)); rintro e w' ⟨rfl, rfl⟩))
    refine (hr.out _).mono ?_
    rintro e w5 ⟨rfl, hbw5⟩
    have z5 := hbw5.size
    try simp at z5
    have c5_0 : w5.cell? ⟨w.heap.size, 0, none⟩ = some (.int .i64 o) := by rw [(bcell hbw5).1 _ _ (by first | (simp; done) | (simp; omega) | omega)]; simp [go_sem, World.cell?_alloc_past, *]
    have c5_1 : w5.cell? ⟨w.heap.size, 1, none⟩ = some (.int .i64 h) := by rw [(bcell hbw5).1 _ _ (by first | (simp; done) | (simp; omega) | omega)]; simp [go_sem, World.cell?_alloc_past, *]
    have c5_2 : w5.cell? ⟨w.heap.size + 1, 0, none⟩ = some (.int .i64 a) := by rw [(bcell hbw5).1 _ _ (by first | (simp; done) | (simp; omega) | omega)]; simp [go_sem, World.cell?_alloc_past, *]
    have c5_3 : w5.cell? ⟨w.heap.size + 1, 1, none⟩ = some (.int .i64 b) := by rw [(bcell hbw5).1 _ _ (by first | (simp; done) | (simp; omega) | omega)]; simp [go_sem, World.cell?_alloc_past, *]
    have c5_4 : w5.cell? ⟨w2.heap.size, 0, none⟩ = some (.int .i64 0) := by rw [(bcell hbw5).1 _ _ (by first | (simp; done) | (simp; omega) | omega)]; simp [go_sem, World.cell?_alloc_past, *]
    have c5_5 : w5.cell? ⟨w2.heap.size, 1, none⟩ = some (.int .i64 0) := by rw [(bcell hbw5).1 _ _ (by first | (simp; done) | (simp; omega) | omega)]; simp [go_sem, World.cell?_alloc_past, *]
    have hB5 : Below w.heap.size w w5 := (by (repeat (first | (with_reducible refine Below.drew ?_) | (with_reducible refine below_drewN ?_ _) | (with_reducible refine Below.alloc ?_ (by first | omega | (simp; done) | (simp; omega) | (simp at *; omega)) _) | (with_reducible refine Below.setCell ?_ (by first | omega | (simp; done) | (simp; omega) | (simp at *; omega)) _) | (with_reducible exact Below.refl _ _) | (with_reducible assumption) | (with_reducible refine Below.trans ?_ (Below.mono (by assumption) (by first | omega | (simp; done) | (simp; omega) | (simp at *; omega)))))))
    clear c4_0 c4_1 c4_2 c4_3 c4_4 c4_5 o4_0 n4_0 t4_0_1 t4_0_2 t4_0_3 t4_0_4 t4_0_5 o4_1 n4_1 t4_1_1 t4_1_2 t4_1_3 t4_1_4 t4_1_5 o4_2 n4_2 t4_2_1 t4_2_2 t4_2_3 t4_2_4 t4_2_5
    have o5_0 : w.heap.size < w5.heap.size := by omega
    have n5_0 : w5.heap.size ≠ w.heap.size := by omega
    have t5_0_1 : w.heap.size < w5.heap.size + 1 := by omega
    have t5_0_2 : w.heap.size < w5.heap.size + 1 + 1 := by omega
    have t5_0_3 : w.heap.size < w5.heap.size + 1 + 1 + 1 := by omega
    have t5_0_4 : w.heap.size < w5.heap.size + 1 + 1 + 1 + 1 := by omega
    have t5_0_5 : w.heap.size < w5.heap.size + 1 + 1 + 1 + 1 + 1 := by omega
    have o5_1 : w.heap.size + 1 < w5.heap.size := by omega
    have n5_1 : w5.heap.size ≠ w.heap.size + 1 := by omega
    have t5_1_1 : w.heap.size + 1 < w5.heap.size + 1 := by omega
    have t5_1_2 : w.heap.size + 1 < w5.heap.size + 1 + 1 := by omega
    have t5_1_3 : w.heap.size + 1 < w5.heap.size + 1 + 1 + 1 := by omega
    have t5_1_4 : w.heap.size + 1 < w5.heap.size + 1 + 1 + 1 + 1 := by omega
    have t5_1_5 : w.heap.size + 1 < w5.heap.size + 1 + 1 + 1 + 1 + 1 := by omega
    have o5_2 : w2.heap.size < w5.heap.size := by omega
    have n5_2 : w5.heap.size ≠ w2.heap.size := by omega
    have t5_2_1 : w2.heap.size < w5.heap.size + 1 := by omega
    have t5_2_2 : w2.heap.size < w5.heap.size + 1 + 1 := by omega
    have t5_2_3 : w2.heap.size < w5.heap.size + 1 + 1 + 1 := by omega
    have t5_2_4 : w2.heap.size < w5.heap.size + 1 + 1 + 1 + 1 := by omega
    have t5_2_5 : w2.heap.size < w5.heap.size + 1 + 1 + 1 + 1 + 1 := by omega
    have o5_3 : w4.heap.size < w5.heap.size := by omega
    have n5_3 : w5.heap.size ≠ w4.heap.size := by omega
    have t5_3_1 : w4.heap.size < w5.heap.size + 1 := by omega
    have t5_3_2 : w4.heap.size < w5.heap.size + 1 + 1 := by omega
    have t5_3_3 : w4.heap.size < w5.heap.size + 1 + 1 + 1 := by omega
    have t5_3_4 : w4.heap.size < w5.heap.size + 1 + 1 + 1 + 1 := by omega
    have t5_3_5 : w4.heap.size < w5.heap.size + 1 + 1 + 1 + 1 + 1 := by omega
    have b5 : w.heap.size ≤ w5.heap.size := by omega
    clear hbw5
    go_wp2
    go_ret
    exact ⟨rfl, (by (repeat (first | (with_reducible refine Below.drew ?_) | (with_reducible refine below_drewN ?_ _) | (with_reducible refine Below.alloc ?_ (by first | omega | (simp; done) | (simp; omega) | (simp at *; omega)) _) | (with_reducible refine Below.setCell ?_ (by first | omega | (simp; done) | (simp; omega) | (simp at *; omega)) _) | (with_reducible exact Below.refl _ _) | (with_reducible assumption) | (with_reducible refine Below.trans ?_ (Below.mono (by assumption) (by first | omega | (simp; done) | (simp; omega) | (simp at *; omega)))))))⟩
set_option maxRecDepth 100000 in
set_option maxHeartbeats 2000000 in
theorem dlaw_k (o h s a b : Int) (w : World) (m : Int) (hm : w.cell? ⟨1, 0, none⟩ = some (.int .i64 m)) (x y : Int) (hp : Hid (eqE o h s 0 = 0)) (hlm : Hid (limE a b = 0)) (hd : Hid (depE o h s a b = 0)) (h0 : Hid (depL o h s a b = x)) (h1 : Hid (depH o h s a b = y)) (hr : Hid (∀ w, Calls Tryd.prog 33 #[.agg #[.int .i64 o, .int .i64 h], .int .i64 s, .agg #[.int .i64 a, .int .i64 b]] w fun e w' => e = .returned (.tuple #[.agg #[.int .i64 x, .int .i64 y], .bool true]) ∧ Below w.heap.size w w')) :
    Calls Tryd.prog 5 #[.agg #[.int .i64 o, .int .i64 h], .int .i64 s, .agg #[.int .i64 a, .int .i64 b]] w fun e w' => e = .returned (.bool true) ∧ Below w.heap.size w w' := by
  have hl := World.block_lt_of_cell? _ _ hm
  have hne : w.heap.size ≠ 1 := by simp at hl; omega
  have hl2 : 1 < w.heap.size := by simpa using hl
  go_enter Tryd.func5, Tryd.ntmps5
  go_wp2_with fail
  refine (awake_any _ m (by exact oldCell (by (repeat (first | (with_reducible refine Below.drew ?_) | (with_reducible refine below_drewN ?_ _) | (with_reducible refine Below.alloc ?_ (by first | omega | (simp; done) | (simp; omega) | (simp at *; omega)) _) | (with_reducible refine Below.setCell ?_ (by first | omega | (simp; done) | (simp; omega) | (simp at *; omega)) _) | (with_reducible exact Below.refl _ _) | (with_reducible assumption) | (with_reducible refine Below.trans ?_ (Below.mono (by assumption) (by first | omega | (simp; done) | (simp; omega) | (simp at *; omega))))))) hm)).mono ?_
  rintro e w1 ⟨rfl, hbw1⟩
  have z1 := hbw1.size
  try simp at z1
  have c1_0 : w1.cell? ⟨w.heap.size, 0, none⟩ = some (.int .i64 o) := by rw [(bcell hbw1).1 _ _ (by first | (simp; done) | (simp; omega) | omega)]; simp [go_sem, World.cell?_alloc_past, *]
  have c1_1 : w1.cell? ⟨w.heap.size, 1, none⟩ = some (.int .i64 h) := by rw [(bcell hbw1).1 _ _ (by first | (simp; done) | (simp; omega) | omega)]; simp [go_sem, World.cell?_alloc_past, *]
  have c1_2 : w1.cell? ⟨w.heap.size + 1, 0, none⟩ = some (.int .i64 a) := by rw [(bcell hbw1).1 _ _ (by first | (simp; done) | (simp; omega) | omega)]; simp [go_sem, World.cell?_alloc_past, *]
  have c1_3 : w1.cell? ⟨w.heap.size + 1, 1, none⟩ = some (.int .i64 b) := by rw [(bcell hbw1).1 _ _ (by first | (simp; done) | (simp; omega) | omega)]; simp [go_sem, World.cell?_alloc_past, *]
  have hB1 : Below w.heap.size w w1 := (by (repeat (first | (with_reducible refine Below.drew ?_) | (with_reducible refine below_drewN ?_ _) | (with_reducible refine Below.alloc ?_ (by first | omega | (simp; done) | (simp; omega) | (simp at *; omega)) _) | (with_reducible refine Below.setCell ?_ (by first | omega | (simp; done) | (simp; omega) | (simp at *; omega)) _) | (with_reducible exact Below.refl _ _) | (with_reducible assumption) | (with_reducible refine Below.trans ?_ (Below.mono (by assumption) (by first | omega | (simp; done) | (simp; omega) | (simp at *; omega)))))))
  have o1_0 : w.heap.size < w1.heap.size := by omega
  have n1_0 : w1.heap.size ≠ w.heap.size := by omega
  have t1_0_1 : w.heap.size < w1.heap.size + 1 := by omega
  have t1_0_2 : w.heap.size < w1.heap.size + 1 + 1 := by omega
  have t1_0_3 : w.heap.size < w1.heap.size + 1 + 1 + 1 := by omega
  have t1_0_4 : w.heap.size < w1.heap.size + 1 + 1 + 1 + 1 := by omega
  have t1_0_5 : w.heap.size < w1.heap.size + 1 + 1 + 1 + 1 + 1 := by omega
  have o1_1 : w.heap.size + 1 < w1.heap.size := by omega
  have n1_1 : w1.heap.size ≠ w.heap.size + 1 := by omega
  have t1_1_1 : w.heap.size + 1 < w1.heap.size + 1 := by omega
  have t1_1_2 : w.heap.size + 1 < w1.heap.size + 1 + 1 := by omega
  have t1_1_3 : w.heap.size + 1 < w1.heap.size + 1 + 1 + 1 := by omega
  have t1_1_4 : w.heap.size + 1 < w1.heap.size + 1 + 1 + 1 + 1 := by omega
  have t1_1_5 : w.heap.size + 1 < w1.heap.size + 1 + 1 + 1 + 1 + 1 := by omega
  have b1 : w.heap.size ≤ w1.heap.size := by omega
  clear hbw1
  go_wp2_with fail
  refine (DepthsFor_is _ _ _ _ _ x y 0 _ h0 h1 hd).mono ?_
  rintro e w2 ⟨rfl, hbw2⟩
  have z2 := hbw2.size
  try simp at z2
  have c2_0 : w2.cell? ⟨w.heap.size, 0, none⟩ = some (.int .i64 o) := by rw [(bcell hbw2).1 _ _ (by first | (simp; done) | (simp; omega) | omega)]; simp [go_sem, World.cell?_alloc_past, *]
  have c2_1 : w2.cell? ⟨w.heap.size, 1, none⟩ = some (.int .i64 h) := by rw [(bcell hbw2).1 _ _ (by first | (simp; done) | (simp; omega) | omega)]; simp [go_sem, World.cell?_alloc_past, *]
  have c2_2 : w2.cell? ⟨w.heap.size + 1, 0, none⟩ = some (.int .i64 a) := by rw [(bcell hbw2).1 _ _ (by first | (simp; done) | (simp; omega) | omega)]; simp [go_sem, World.cell?_alloc_past, *]
  have c2_3 : w2.cell? ⟨w.heap.size + 1, 1, none⟩ = some (.int .i64 b) := by rw [(bcell hbw2).1 _ _ (by first | (simp; done) | (simp; omega) | omega)]; simp [go_sem, World.cell?_alloc_past, *]
  have hB2 : Below w.heap.size w w2 := (by (repeat (first | (with_reducible refine Below.drew ?_) | (with_reducible refine below_drewN ?_ _) | (with_reducible refine Below.alloc ?_ (by first | omega | (simp; done) | (simp; omega) | (simp at *; omega)) _) | (with_reducible refine Below.setCell ?_ (by first | omega | (simp; done) | (simp; omega) | (simp at *; omega)) _) | (with_reducible exact Below.refl _ _) | (with_reducible assumption) | (with_reducible refine Below.trans ?_ (Below.mono (by assumption) (by first | omega | (simp; done) | (simp; omega) | (simp at *; omega)))))))
  clear c1_0 c1_1 c1_2 c1_3 o1_0 n1_0 t1_0_1 t1_0_2 t1_0_3 t1_0_4 t1_0_5 o1_1 n1_1 t1_1_1 t1_1_2 t1_1_3 t1_1_4 t1_1_5
  have o2_0 : w.heap.size < w2.heap.size := by omega
  have n2_0 : w2.heap.size ≠ w.heap.size := by omega
  have t2_0_1 : w.heap.size < w2.heap.size + 1 := by omega
  have t2_0_2 : w.heap.size < w2.heap.size + 1 + 1 := by omega
  have t2_0_3 : w.heap.size < w2.heap.size + 1 + 1 + 1 := by omega
  have t2_0_4 : w.heap.size < w2.heap.size + 1 + 1 + 1 + 1 := by omega
  have t2_0_5 : w.heap.size < w2.heap.size + 1 + 1 + 1 + 1 + 1 := by omega
  have o2_1 : w.heap.size + 1 < w2.heap.size := by omega
  have n2_1 : w2.heap.size ≠ w.heap.size + 1 := by omega
  have t2_1_1 : w.heap.size + 1 < w2.heap.size + 1 := by omega
  have t2_1_2 : w.heap.size + 1 < w2.heap.size + 1 + 1 := by omega
  have t2_1_3 : w.heap.size + 1 < w2.heap.size + 1 + 1 + 1 := by omega
  have t2_1_4 : w.heap.size + 1 < w2.heap.size + 1 + 1 + 1 + 1 := by omega
  have t2_1_5 : w.heap.size + 1 < w2.heap.size + 1 + 1 + 1 + 1 + 1 := by omega
  have b2 : w.heap.size ≤ w2.heap.size := by omega
  clear hbw2
  go_upto_region 4 with (fail)
  go_cut [25] from 12 (fun s25 wx => s25 = .bool false ∧ Below w.heap.size w wx ∧ w2.heap.size + 1 ≤ wx.heap.size ∧ wx.cell? ⟨w.heap.size, 0, none⟩ = some (.int .i64 o) ∧ wx.cell? ⟨w.heap.size, 1, none⟩ = some (.int .i64 h) ∧ wx.cell? ⟨w.heap.size + 1, 0, none⟩ = some (.int .i64 a) ∧ wx.cell? ⟨w.heap.size + 1, 1, none⟩ = some (.int .i64 b) ∧ wx.cell? ⟨w2.heap.size, 0, none⟩ = some (.int .i64 x) ∧ wx.cell? ⟨w2.heap.size, 1, none⟩ = some (.int .i64 y))
  case first =>
    go_region_held3 (fun w' => w'.cell? ⟨w.heap.size + 1, 0, none⟩ = some (.int .i64 a) ∧ w'.cell? ⟨w.heap.size + 1, 1, none⟩ = some (.int .i64 b)) (simp [go_sem, World.cell?_alloc_past, *])
      (first
        | (go_at_call 30; ((with_reducible refine (CheckLimits_is _ _ 0 _ hlm).mono ?_)); rintro e w' ⟨rfl, rfl⟩)
        | (go_at_call 31; ((with_reducible refine (refCheckLimits_is _ _ 0 _ hlm).mono ?_)); rintro e w' ⟨rfl, rfl⟩))
    all_goals (go_wp2_with fail; go_meet; exact ⟨rfl, (by (repeat (first | (with_reducible refine Below.drew ?_) | (with_reducible refine below_drewN ?_ _) | (with_reducible refine Below.alloc ?_ (by first | omega | (simp; done) | (simp; omega) | (simp at *; omega)) _) | (with_reducible refine Below.setCell ?_ (by first | omega | (simp; done) | (simp; omega) | (simp at *; omega)) _) | (with_reducible exact Below.refl _ _) | (with_reducible assumption) | (with_reducible refine Below.trans ?_ (Below.mono (by assumption) (by first | omega | (simp; done) | (simp; omega) | (simp at *; omega))))))), (by first | (simp; done) | (simp; omega) | omega), (by simp [go_sem, World.cell?_alloc_past, *]), (by simp [go_sem, World.cell?_alloc_past, *]), (by simp [go_sem, World.cell?_alloc_past, *]), (by simp [go_sem, World.cell?_alloc_past, *]), (by simp [go_sem, World.cell?_alloc_past, *]), (by simp [go_sem, World.cell?_alloc_past, *])⟩)
  case rest =>
    obtain ⟨rfl, hB3, z3, c3_0, c3_1, c3_2, c3_3, c3_4, c3_5⟩ := hcut
    clear c2_0 c2_1 c2_2 c2_3 o2_0 n2_0 t2_0_1 t2_0_2 t2_0_3 t2_0_4 t2_0_5 o2_1 n2_1 t2_1_1 t2_1_2 t2_1_3 t2_1_4 t2_1_5
    have o3_0 : w.heap.size < wc.heap.size := by omega
    have n3_0 : wc.heap.size ≠ w.heap.size := by omega
    have t3_0_1 : w.heap.size < wc.heap.size + 1 := by omega
    have t3_0_2 : w.heap.size < wc.heap.size + 1 + 1 := by omega
    have t3_0_3 : w.heap.size < wc.heap.size + 1 + 1 + 1 := by omega
    have t3_0_4 : w.heap.size < wc.heap.size + 1 + 1 + 1 + 1 := by omega
    have t3_0_5 : w.heap.size < wc.heap.size + 1 + 1 + 1 + 1 + 1 := by omega
    have o3_1 : w.heap.size + 1 < wc.heap.size := by omega
    have n3_1 : wc.heap.size ≠ w.heap.size + 1 := by omega
    have t3_1_1 : w.heap.size + 1 < wc.heap.size + 1 := by omega
    have t3_1_2 : w.heap.size + 1 < wc.heap.size + 1 + 1 := by omega
    have t3_1_3 : w.heap.size + 1 < wc.heap.size + 1 + 1 + 1 := by omega
    have t3_1_4 : w.heap.size + 1 < wc.heap.size + 1 + 1 + 1 + 1 := by omega
    have t3_1_5 : w.heap.size + 1 < wc.heap.size + 1 + 1 + 1 + 1 + 1 := by omega
    have o3_2 : w2.heap.size < wc.heap.size := by omega
    have n3_2 : wc.heap.size ≠ w2.heap.size := by omega
    have t3_2_1 : w2.heap.size < wc.heap.size + 1 := by omega
    have t3_2_2 : w2.heap.size < wc.heap.size + 1 + 1 := by omega
    have t3_2_3 : w2.heap.size < wc.heap.size + 1 + 1 + 1 := by omega
    have t3_2_4 : w2.heap.size < wc.heap.size + 1 + 1 + 1 + 1 := by omega
    have t3_2_5 : w2.heap.size < wc.heap.size + 1 + 1 + 1 + 1 + 1 := by omega
    have b3 : w.heap.size ≤ wc.heap.size := by omega
    go_wp2_with fail
    refine (place_is _ _ _ _ 0 _ hp).mono ?_
    rintro e w4 ⟨rfl, hbw4⟩
    have z4 := hbw4.size
    try simp at z4
    have c4_0 : w4.cell? ⟨w.heap.size, 0, none⟩ = some (.int .i64 o) := by rw [(bcell hbw4).1 _ _ (by first | (simp; done) | (simp; omega) | omega)]; simp [go_sem, World.cell?_alloc_past, *]
    have c4_1 : w4.cell? ⟨w.heap.size, 1, none⟩ = some (.int .i64 h) := by rw [(bcell hbw4).1 _ _ (by first | (simp; done) | (simp; omega) | omega)]; simp [go_sem, World.cell?_alloc_past, *]
    have c4_2 : w4.cell? ⟨w.heap.size + 1, 0, none⟩ = some (.int .i64 a) := by rw [(bcell hbw4).1 _ _ (by first | (simp; done) | (simp; omega) | omega)]; simp [go_sem, World.cell?_alloc_past, *]
    have c4_3 : w4.cell? ⟨w.heap.size + 1, 1, none⟩ = some (.int .i64 b) := by rw [(bcell hbw4).1 _ _ (by first | (simp; done) | (simp; omega) | omega)]; simp [go_sem, World.cell?_alloc_past, *]
    have c4_4 : w4.cell? ⟨w2.heap.size, 0, none⟩ = some (.int .i64 x) := by rw [(bcell hbw4).1 _ _ (by first | (simp; done) | (simp; omega) | omega)]; simp [go_sem, World.cell?_alloc_past, *]
    have c4_5 : w4.cell? ⟨w2.heap.size, 1, none⟩ = some (.int .i64 y) := by rw [(bcell hbw4).1 _ _ (by first | (simp; done) | (simp; omega) | omega)]; simp [go_sem, World.cell?_alloc_past, *]
    have hB4 : Below w.heap.size w w4 := (by (repeat (first | (with_reducible refine Below.drew ?_) | (with_reducible refine below_drewN ?_ _) | (with_reducible refine Below.alloc ?_ (by first | omega | (simp; done) | (simp; omega) | (simp at *; omega)) _) | (with_reducible refine Below.setCell ?_ (by first | omega | (simp; done) | (simp; omega) | (simp at *; omega)) _) | (with_reducible exact Below.refl _ _) | (with_reducible assumption) | (with_reducible refine Below.trans ?_ (Below.mono (by assumption) (by first | omega | (simp; done) | (simp; omega) | (simp at *; omega)))))))
    clear c3_0 c3_1 c3_2 c3_3 c3_4 c3_5 o3_0 n3_0 t3_0_1 t3_0_2 t3_0_3 t3_0_4 t3_0_5 o3_1 n3_1 t3_1_1 t3_1_2 t3_1_3 t3_1_4 t3_1_5 o3_2 n3_2 t3_2_1 t3_2_2 t3_2_3 t3_2_4 t3_2_5
    have o4_0 : w.heap.size < w4.heap.size := by omega
    have n4_0 : w4.heap.size ≠ w.heap.size := by omega
    have t4_0_1 : w.heap.size < w4.heap.size + 1 := by omega
    have t4_0_2 : w.heap.size < w4.heap.size + 1 + 1 := by omega
    have t4_0_3 : w.heap.size < w4.heap.size + 1 + 1 + 1 := by omega
    have t4_0_4 : w.heap.size < w4.heap.size + 1 + 1 + 1 + 1 := by omega
    have t4_0_5 : w.heap.size < w4.heap.size + 1 + 1 + 1 + 1 + 1 := by omega
    have o4_1 : w.heap.size + 1 < w4.heap.size := by omega
    have n4_1 : w4.heap.size ≠ w.heap.size + 1 := by omega
    have t4_1_1 : w.heap.size + 1 < w4.heap.size + 1 := by omega
    have t4_1_2 : w.heap.size + 1 < w4.heap.size + 1 + 1 := by omega
    have t4_1_3 : w.heap.size + 1 < w4.heap.size + 1 + 1 + 1 := by omega
    have t4_1_4 : w.heap.size + 1 < w4.heap.size + 1 + 1 + 1 + 1 := by omega
    have t4_1_5 : w.heap.size + 1 < w4.heap.size + 1 + 1 + 1 + 1 + 1 := by omega
    have o4_2 : w2.heap.size < w4.heap.size := by omega
    have n4_2 : w4.heap.size ≠ w2.heap.size := by omega
    have t4_2_1 : w2.heap.size < w4.heap.size + 1 := by omega
    have t4_2_2 : w2.heap.size < w4.heap.size + 1 + 1 := by omega
    have t4_2_3 : w2.heap.size < w4.heap.size + 1 + 1 + 1 := by omega
    have t4_2_4 : w2.heap.size < w4.heap.size + 1 + 1 + 1 + 1 := by omega
    have t4_2_5 : w2.heap.size < w4.heap.size + 1 + 1 + 1 + 1 + 1 := by omega
    have b4 : w.heap.size ≤ w4.heap.size := by omega
    clear hbw4
    go_wp2_with ((go_at_call 31; ((with_reducible refine (refCheckLimits_is _ _ 0 _ hlm).mono ?_)); rintro e w' ⟨rfl, rfl⟩))
    refine (hr.out _).mono ?_
    rintro e w5 ⟨rfl, hbw5⟩
    have z5 := hbw5.size
    try simp at z5
    have c5_0 : w5.cell? ⟨w.heap.size, 0, none⟩ = some (.int .i64 o) := by rw [(bcell hbw5).1 _ _ (by first | (simp; done) | (simp; omega) | omega)]; simp [go_sem, World.cell?_alloc_past, *]
    have c5_1 : w5.cell? ⟨w.heap.size, 1, none⟩ = some (.int .i64 h) := by rw [(bcell hbw5).1 _ _ (by first | (simp; done) | (simp; omega) | omega)]; simp [go_sem, World.cell?_alloc_past, *]
    have c5_2 : w5.cell? ⟨w.heap.size + 1, 0, none⟩ = some (.int .i64 a) := by rw [(bcell hbw5).1 _ _ (by first | (simp; done) | (simp; omega) | omega)]; simp [go_sem, World.cell?_alloc_past, *]
    have c5_3 : w5.cell? ⟨w.heap.size + 1, 1, none⟩ = some (.int .i64 b) := by rw [(bcell hbw5).1 _ _ (by first | (simp; done) | (simp; omega) | omega)]; simp [go_sem, World.cell?_alloc_past, *]
    have c5_4 : w5.cell? ⟨w2.heap.size, 0, none⟩ = some (.int .i64 x) := by rw [(bcell hbw5).1 _ _ (by first | (simp; done) | (simp; omega) | omega)]; simp [go_sem, World.cell?_alloc_past, *]
    have c5_5 : w5.cell? ⟨w2.heap.size, 1, none⟩ = some (.int .i64 y) := by rw [(bcell hbw5).1 _ _ (by first | (simp; done) | (simp; omega) | omega)]; simp [go_sem, World.cell?_alloc_past, *]
    have hB5 : Below w.heap.size w w5 := (by (repeat (first | (with_reducible refine Below.drew ?_) | (with_reducible refine below_drewN ?_ _) | (with_reducible refine Below.alloc ?_ (by first | omega | (simp; done) | (simp; omega) | (simp at *; omega)) _) | (with_reducible refine Below.setCell ?_ (by first | omega | (simp; done) | (simp; omega) | (simp at *; omega)) _) | (with_reducible exact Below.refl _ _) | (with_reducible assumption) | (with_reducible refine Below.trans ?_ (Below.mono (by assumption) (by first | omega | (simp; done) | (simp; omega) | (simp at *; omega)))))))
    clear c4_0 c4_1 c4_2 c4_3 c4_4 c4_5 o4_0 n4_0 t4_0_1 t4_0_2 t4_0_3 t4_0_4 t4_0_5 o4_1 n4_1 t4_1_1 t4_1_2 t4_1_3 t4_1_4 t4_1_5 o4_2 n4_2 t4_2_1 t4_2_2 t4_2_3 t4_2_4 t4_2_5
    have o5_0 : w.heap.size < w5.heap.size := by omega
    have n5_0 : w5.heap.size ≠ w.heap.size := by omega
    have t5_0_1 : w.heap.size < w5.heap.size + 1 := by omega
    have t5_0_2 : w.heap.size < w5.heap.size + 1 + 1 := by omega
    have t5_0_3 : w.heap.size < w5.heap.size + 1 + 1 + 1 := by omega
    have t5_0_4 : w.heap.size < w5.heap.size + 1 + 1 + 1 + 1 := by omega
    have t5_0_5 : w.heap.size < w5.heap.size + 1 + 1 + 1 + 1 + 1 := by omega
    have o5_1 : w.heap.size + 1 < w5.heap.size := by omega
    have n5_1 : w5.heap.size ≠ w.heap.size + 1 := by omega
    have t5_1_1 : w.heap.size + 1 < w5.heap.size + 1 := by omega
    have t5_1_2 : w.heap.size + 1 < w5.heap.size + 1 + 1 := by omega
    have t5_1_3 : w.heap.size + 1 < w5.heap.size + 1 + 1 + 1 := by omega
    have t5_1_4 : w.heap.size + 1 < w5.heap.size + 1 + 1 + 1 + 1 := by omega
    have t5_1_5 : w.heap.size + 1 < w5.heap.size + 1 + 1 + 1 + 1 + 1 := by omega
    have o5_2 : w2.heap.size < w5.heap.size := by omega
    have n5_2 : w5.heap.size ≠ w2.heap.size := by omega
    have t5_2_1 : w2.heap.size < w5.heap.size + 1 := by omega
    have t5_2_2 : w2.heap.size < w5.heap.size + 1 + 1 := by omega
    have t5_2_3 : w2.heap.size < w5.heap.size + 1 + 1 + 1 := by omega
    have t5_2_4 : w2.heap.size < w5.heap.size + 1 + 1 + 1 + 1 := by omega
    have t5_2_5 : w2.heap.size < w5.heap.size + 1 + 1 + 1 + 1 + 1 := by omega
    have o5_3 : w4.heap.size < w5.heap.size := by omega
    have n5_3 : w5.heap.size ≠ w4.heap.size := by omega
    have t5_3_1 : w4.heap.size < w5.heap.size + 1 := by omega
    have t5_3_2 : w4.heap.size < w5.heap.size + 1 + 1 := by omega
    have t5_3_3 : w4.heap.size < w5.heap.size + 1 + 1 + 1 := by omega
    have t5_3_4 : w4.heap.size < w5.heap.size + 1 + 1 + 1 + 1 := by omega
    have t5_3_5 : w4.heap.size < w5.heap.size + 1 + 1 + 1 + 1 + 1 := by omega
    have b5 : w.heap.size ≤ w5.heap.size := by omega
    clear hbw5
    go_wp2
    go_ret
    exact ⟨rfl, (by (repeat (first | (with_reducible refine Below.drew ?_) | (with_reducible refine below_drewN ?_ _) | (with_reducible refine Below.alloc ?_ (by first | omega | (simp; done) | (simp; omega) | (simp at *; omega)) _) | (with_reducible refine Below.setCell ?_ (by first | omega | (simp; done) | (simp; omega) | (simp at *; omega)) _) | (with_reducible exact Below.refl _ _) | (with_reducible assumption) | (with_reducible refine Below.trans ?_ (Below.mono (by assumption) (by first | omega | (simp; done) | (simp; omega) | (simp at *; omega)))))))⟩
theorem gasDepths_any (o h s a b : Int) (w : World) (m : Int) (hm : w.cell? ⟨1, 0, none⟩ = some (.int .i64 m)) :
    Calls Tryd.prog 5 #[.agg #[.int .i64 o, .int .i64 h], .int .i64 s, .agg #[.int .i64 a, .int .i64 b]] w fun e w' => e = .returned (.bool true) ∧ Below w.heap.size w w' := by
  rcases ez (eqE o h s 0) with ⟨hp, hpb⟩ | ⟨hp, hpb⟩
  · rcases ez (limE a b) with ⟨hl, hlb⟩ | ⟨hl, hlb⟩
    · obtain ⟨⟨k1, k2, k3, k4, k7⟩, ⟨k5, k6⟩, _, _⟩ := eqE_z hp.out
      obtain ⟨g1, g2, g3, g4, g5⟩ := limE_z hl.out
      have hP : depP o h s a b = 0 := by rw [depP_li hp.out]; exact hl.out
      by_cases ho : o = 0
      · have hE : depE o h s a b = 12 := by unfold depE; rw [if_pos hP, if_pos ho]
        refine dlaw_n o h s a b w m hm 0 0 hp hl hE (by unfold depL; rw [hE]; rfl) (by unfold depH; rw [hE]; rfl) ?_
        subst ho
        exact fun w => refDepthsFor_0 h s a b w
      · by_cases hd : depLo o s a ≤ depHi o s b
        · have hE : depE o h s a b = 0 := by unfold depE; rw [if_pos hP, if_neg ho, if_pos hd]
          exact dlaw_k o h s a b w m hm _ _ hp hl hE (by unfold depL; rw [if_pos hE]; exact rfl) (by unfold depH; rw [if_pos hE]; exact rfl) (fun w => refDepthsFor_k o h s a b true w (by omega) k2 k5 k6 g1 g2 g3 g4 (by simpa using hd))
        · have hE : depE o h s a b = 12 := by unfold depE; rw [if_pos hP, if_neg ho, if_neg hd]
          exact dlaw_n o h s a b w m hm _ _ hp hl hE (by unfold depL; rw [hE]; rfl) (by unfold depH; rw [hE]; rfl) (fun w => refDepthsFor_k o h s a b false w (by omega) k2 k5 k6 g1 g2 g3 g4 (by simpa using hd))
    · have hP : depP o h s a b = limE a b := depP_li hp.out
      have hE : depE o h s a b = limE a b := by unfold depE; rw [if_neg (by rw [hP]; exact hl.out), hP]
      exact dlaw_l o h s a b w m hm _ hp rfl hlb hE (by unfold depL; rw [hE, if_neg hl.out]; exact rfl) (by unfold depH; rw [hE, if_neg hl.out]; exact rfl)
  · have hP : depP o h s a b = eqE o h s 0 := depP_pl hp.out
    have hE : depE o h s a b = eqE o h s 0 := by unfold depE; rw [if_neg (by rw [hP]; exact hp.out), hP]
    exact dlaw_p o h s a b w m hm _ _ rfl hpb (by simpa using hp.out) rfl hE (by unfold depL; rw [hE, if_neg hp.out]; exact rfl) (by unfold depH; rw [hE, if_neg hp.out]; exact rfl)
end Go.Proofs.YtebieflnlmdllaaDoor
