/- The walk of shotlinelaw01.GasNames: it returns true. -/
import Derived.Test.YtpagbkbaphjmdaaDoorAwake
import Derived.Test.YtpagbkbaphjmdaaDoorRefParseAny
import Derived.Outline
namespace Go.Proofs.YtpagbkbaphjmdaaDoor
open Go.ChangeShapes Go.WideShapes Go.ChangeAt Go.RowKit
set_option linter.unusedVariables false
set_option linter.unusedSimpArgs false

theorem NitrogenOf_good (o h : Int) (w : World) (hg : Hid (gasE o h = 0)) :
    Calls Tryd.prog 5 #[.agg #[.int .i64 o, .int .i64 h]] w fun e w' => e = .returned (.tuple #[.int .i64 (1000 - o - h), .int .i64 0]) ∧ Below w.heap.size w w' := by
  obtain ⟨a1, a2, a3, a4, a5⟩ := gasE_z hg.out
  go_enter Tryd.func5, Tryd.ntmps5
  go_wp2_with (first | (go_at_call 10; ((with_reducible refine (CheckGas_n o h 0 _ hg).mono ?_)); rintro e w' ⟨rfl, rfl⟩) | (go_at_call 16; ((with_reducible refine (nitrogenOf_any _ _ _ a1 a2 a3 a4).mono ?_)); rintro e w' ⟨rfl, rfl⟩))
  go_ret2
  exact ⟨by first | rfl | (simp; done), (by (repeat (first | (with_reducible refine Below.drew ?_) | (with_reducible refine below_drewN ?_ _) | (with_reducible refine Below.alloc ?_ (by first | omega | (simp; done) | (simp; omega) | (simp at *; omega)) _) | (with_reducible refine Below.setCell ?_ (by first | omega | (simp; done) | (simp; omega) | (simp at *; omega)) _) | (with_reducible exact Below.refl _ _) | (with_reducible assumption) | (with_reducible refine Below.trans ?_ (Below.mono (by assumption) (by first | omega | (simp; done) | (simp; omega) | (simp at *; omega)))))))⟩
theorem NitrogenOf_bad (o h c : Int) (w : World) (hg : Hid (gasE o h = c)) (hc : (c != 0) = true) :
    Calls Tryd.prog 5 #[.agg #[.int .i64 o, .int .i64 h]] w fun e w' => e = .returned (.tuple #[.int .i64 0, .int .i64 c]) ∧ Below w.heap.size w w' := by
  go_enter Tryd.func5, Tryd.ntmps5
  go_wp2_with ((go_at_call 10; ((with_reducible refine (CheckGas_n o h c _ hg).mono ?_)); rintro e w' ⟨rfl, rfl⟩))
  go_ret2
  exact ⟨by first | rfl | (simp; done), (by (repeat (first | (with_reducible refine Below.drew ?_) | (with_reducible refine below_drewN ?_ _) | (with_reducible refine Below.alloc ?_ (by first | omega | (simp; done) | (simp; omega) | (simp at *; omega)) _) | (with_reducible refine Below.setCell ?_ (by first | omega | (simp; done) | (simp; omega) | (simp at *; omega)) _) | (with_reducible exact Below.refl _ _) | (with_reducible assumption) | (with_reducible refine Below.trans ?_ (Below.mono (by assumption) (by first | omega | (simp; done) | (simp; omega) | (simp at *; omega)))))))⟩
theorem refNitrogen_n (o h : Int) (w : World) (a1 : 0 ≤ o) (a2 : o ≤ 1000) (a3 : 0 ≤ h) (a4 : h ≤ 1000) :
    Calls Tryd.prog 11 #[.agg #[.int .i64 o, .int .i64 h]] w fun e w' => e = .returned (.int .i64 (1000 - o - h)) ∧ w.alloc (.cells #[.int .i64 o, .int .i64 h] 23) = w' := by
  go_enter Tryd.func11, Tryd.ntmps11
  go_wp2
  go_ret
  exact ⟨rfl, rfl⟩
/-- What a world holds that texts are written and read by. -/
def TxtOk (w : World) (m : Int) : Prop := w.cell? ⟨1, 0, none⟩ = some (.int .i64 m) ∧ TabOk w ∧ ErrOk w
theorem TxtOk.below {w w' : World} {m : Int} (h : TxtOk w m) (hb : Below w.heap.size w w') : TxtOk w' m := ⟨oldM hb h.1, h.2.1.below hb, h.2.2.below hb⟩
set_option maxRecDepth 100000 in
set_option maxHeartbeats 4000000 in
theorem nlaw_long (o h : Int) (S : ByteArray) (w : World) (m : Int) (HX : Hid (TxtOk w m)) (hl : 40 < S.size) :
    Calls Tryd.prog 3 #[.agg #[.int .i64 o, .int .i64 h], .string S] w fun e w' => e = .returned (.bool true) ∧ Below w.heap.size w w' := by
  have hlm := World.block_lt_of_cell? _ _ HX.out.1
  have hne : w.heap.size ≠ 1 := by simp at hlm; omega
  have hl2 : 1 < w.heap.size := by simpa using hlm
  clear hlm
  go_enter Tryd.func3, Tryd.ntmps3
  go_wp2_with fail
  refine (awake_any _ m (by exact (HX.out.below (by (repeat (first | (with_reducible refine Below.drew ?_) | (with_reducible refine below_drewN ?_ _) | (with_reducible refine Below.alloc ?_ (by first | omega | (simp; done) | (simp; omega) | (simp at *; omega)) _) | (with_reducible refine Below.setCell ?_ (by first | omega | (simp; done) | (simp; omega) | (simp at *; omega)) _) | (with_reducible exact Below.refl _ _) | (with_reducible assumption) | (with_reducible refine Below.trans ?_ (Below.mono (by assumption) (by first | omega | (simp; done) | (simp; omega) | (simp at *; omega)))))))).1)).mono ?_
  rintro e w1 ⟨rfl, hbw1⟩
  have z1 := hbw1.size
  try simp at z1
  have c1_0 : w1.cell? ⟨w.heap.size, 0, none⟩ = some (.int .i64 o) := by rw [(bcell hbw1).1 _ _ (by first | (simp; done) | (simp; omega) | omega)]; simp [go_sem, World.cell?_alloc_past, *]
  have c1_1 : w1.cell? ⟨w.heap.size, 1, none⟩ = some (.int .i64 h) := by rw [(bcell hbw1).1 _ _ (by first | (simp; done) | (simp; omega) | omega)]; simp [go_sem, World.cell?_alloc_past, *]
  have hB1 : Below w.heap.size w w1 := (by (repeat (first | (with_reducible refine Below.drew ?_) | (with_reducible refine below_drewN ?_ _) | (with_reducible refine Below.alloc ?_ (by first | omega | (simp; done) | (simp; omega) | (simp at *; omega)) _) | (with_reducible refine Below.setCell ?_ (by first | omega | (simp; done) | (simp; omega) | (simp at *; omega)) _) | (with_reducible exact Below.refl _ _) | (with_reducible assumption) | (with_reducible refine Below.trans ?_ (Below.mono (by assumption) (by first | omega | (simp; done) | (simp; omega) | (simp at *; omega)))))))
  have o1_0 : w.heap.size < w1.heap.size := by omega
  have n1_0 : w1.heap.size ≠ w.heap.size := by omega
  have t1_0_1 : w.heap.size < w1.heap.size + 1 := by omega
  have t1_0_2 : w.heap.size < w1.heap.size + 1 + 1 := by omega
  have t1_0_3 : w.heap.size < w1.heap.size + 1 + 1 + 1 := by omega
  have b1 : w.heap.size ≤ w1.heap.size := by omega
  clear hbw1
  go_wp2
  go_ret
  exact ⟨rfl, (by (repeat (first | (with_reducible refine Below.drew ?_) | (with_reducible refine below_drewN ?_ _) | (with_reducible refine Below.alloc ?_ (by first | omega | (simp; done) | (simp; omega) | (simp at *; omega)) _) | (with_reducible refine Below.setCell ?_ (by first | omega | (simp; done) | (simp; omega) | (simp at *; omega)) _) | (with_reducible exact Below.refl _ _) | (with_reducible assumption) | (with_reducible refine Below.trans ?_ (Below.mono (by assumption) (by first | omega | (simp; done) | (simp; omega) | (simp at *; omega)))))))⟩
set_option maxRecDepth 100000 in
set_option maxHeartbeats 4000000 in
theorem nlaw_bad (o h : Int) (S : ByteArray) (w : World) (m : Int) (HX : Hid (TxtOk w m)) (hl : S.size ≤ 40) (po ph pc : Int) (HP : Hid (∀ w, TxtOk w m → Calls Tryd.prog 7 #[.string S] w fun e w' => e = .returned (.tuple #[.agg #[.int .i64 po, .int .i64 ph], .int .i64 pc]) ∧ Below w.heap.size w w')) (HR : Hid (∀ w, Calls Tryd.prog 8 #[.string S] w fun e w' => e = .returned (.tuple #[.agg #[.int .i64 po, .int .i64 ph], .int .i64 pc]) ∧ Below w.heap.size w w')) (c : Int) (hg : Hid (gasE o h = c)) (hc : (c != 0) = true) (hc2 : (c == 0) = false) :
    Calls Tryd.prog 3 #[.agg #[.int .i64 o, .int .i64 h], .string S] w fun e w' => e = .returned (.bool true) ∧ Below w.heap.size w w' := by
  have hlm := World.block_lt_of_cell? _ _ HX.out.1
  have hne : w.heap.size ≠ 1 := by simp at hlm; omega
  have hl2 : 1 < w.heap.size := by simpa using hlm
  clear hlm
  go_enter Tryd.func3, Tryd.ntmps3
  go_wp2_with fail
  refine (awake_any _ m (by exact (HX.out.below (by (repeat (first | (with_reducible refine Below.drew ?_) | (with_reducible refine below_drewN ?_ _) | (with_reducible refine Below.alloc ?_ (by first | omega | (simp; done) | (simp; omega) | (simp at *; omega)) _) | (with_reducible refine Below.setCell ?_ (by first | omega | (simp; done) | (simp; omega) | (simp at *; omega)) _) | (with_reducible exact Below.refl _ _) | (with_reducible assumption) | (with_reducible refine Below.trans ?_ (Below.mono (by assumption) (by first | omega | (simp; done) | (simp; omega) | (simp at *; omega)))))))).1)).mono ?_
  rintro e w1 ⟨rfl, hbw1⟩
  have z1 := hbw1.size
  try simp at z1
  have c1_0 : w1.cell? ⟨w.heap.size, 0, none⟩ = some (.int .i64 o) := by rw [(bcell hbw1).1 _ _ (by first | (simp; done) | (simp; omega) | omega)]; simp [go_sem, World.cell?_alloc_past, *]
  have c1_1 : w1.cell? ⟨w.heap.size, 1, none⟩ = some (.int .i64 h) := by rw [(bcell hbw1).1 _ _ (by first | (simp; done) | (simp; omega) | omega)]; simp [go_sem, World.cell?_alloc_past, *]
  have hB1 : Below w.heap.size w w1 := (by (repeat (first | (with_reducible refine Below.drew ?_) | (with_reducible refine below_drewN ?_ _) | (with_reducible refine Below.alloc ?_ (by first | omega | (simp; done) | (simp; omega) | (simp at *; omega)) _) | (with_reducible refine Below.setCell ?_ (by first | omega | (simp; done) | (simp; omega) | (simp at *; omega)) _) | (with_reducible exact Below.refl _ _) | (with_reducible assumption) | (with_reducible refine Below.trans ?_ (Below.mono (by assumption) (by first | omega | (simp; done) | (simp; omega) | (simp at *; omega)))))))
  have o1_0 : w.heap.size < w1.heap.size := by omega
  have n1_0 : w1.heap.size ≠ w.heap.size := by omega
  have t1_0_1 : w.heap.size < w1.heap.size + 1 := by omega
  have t1_0_2 : w.heap.size < w1.heap.size + 1 + 1 := by omega
  have t1_0_3 : w.heap.size < w1.heap.size + 1 + 1 + 1 := by omega
  have b1 : w.heap.size ≤ w1.heap.size := by omega
  clear hbw1
  go_wp2_with fail
  refine (NitrogenOf_bad o h c _ hg hc).mono ?_
  rintro e w2 ⟨rfl, hbw2⟩
  have z2 := hbw2.size
  try simp at z2
  have c2_0 : w2.cell? ⟨w.heap.size, 0, none⟩ = some (.int .i64 o) := by rw [(bcell hbw2).1 _ _ (by first | (simp; done) | (simp; omega) | omega)]; simp [go_sem, World.cell?_alloc_past, *]
  have c2_1 : w2.cell? ⟨w.heap.size, 1, none⟩ = some (.int .i64 h) := by rw [(bcell hbw2).1 _ _ (by first | (simp; done) | (simp; omega) | omega)]; simp [go_sem, World.cell?_alloc_past, *]
  have hB2 : Below w.heap.size w w2 := (by (repeat (first | (with_reducible refine Below.drew ?_) | (with_reducible refine below_drewN ?_ _) | (with_reducible refine Below.alloc ?_ (by first | omega | (simp; done) | (simp; omega) | (simp at *; omega)) _) | (with_reducible refine Below.setCell ?_ (by first | omega | (simp; done) | (simp; omega) | (simp at *; omega)) _) | (with_reducible exact Below.refl _ _) | (with_reducible assumption) | (with_reducible refine Below.trans ?_ (Below.mono (by assumption) (by first | omega | (simp; done) | (simp; omega) | (simp at *; omega)))))))
  clear c1_0 c1_1 o1_0 n1_0 t1_0_1 t1_0_2 t1_0_3
  have o2_0 : w.heap.size < w2.heap.size := by omega
  have n2_0 : w2.heap.size ≠ w.heap.size := by omega
  have t2_0_1 : w.heap.size < w2.heap.size + 1 := by omega
  have t2_0_2 : w.heap.size < w2.heap.size + 1 + 1 := by omega
  have t2_0_3 : w.heap.size < w2.heap.size + 1 + 1 + 1 := by omega
  have b2 : w.heap.size ≤ w2.heap.size := by omega
  clear hbw2
  go_wp2_with fail
  refine (Format_bad o h c _ hg hc).mono ?_
  rintro e w3 ⟨rfl, hbw3⟩
  have z3 := hbw3.size
  try simp at z3
  have c3_0 : w3.cell? ⟨w.heap.size, 0, none⟩ = some (.int .i64 o) := by rw [(bcell hbw3).1 _ _ (by first | (simp; done) | (simp; omega) | omega)]; simp [go_sem, World.cell?_alloc_past, *]
  have c3_1 : w3.cell? ⟨w.heap.size, 1, none⟩ = some (.int .i64 h) := by rw [(bcell hbw3).1 _ _ (by first | (simp; done) | (simp; omega) | omega)]; simp [go_sem, World.cell?_alloc_past, *]
  have hB3 : Below w.heap.size w w3 := (by (repeat (first | (with_reducible refine Below.drew ?_) | (with_reducible refine below_drewN ?_ _) | (with_reducible refine Below.alloc ?_ (by first | omega | (simp; done) | (simp; omega) | (simp at *; omega)) _) | (with_reducible refine Below.setCell ?_ (by first | omega | (simp; done) | (simp; omega) | (simp at *; omega)) _) | (with_reducible exact Below.refl _ _) | (with_reducible assumption) | (with_reducible refine Below.trans ?_ (Below.mono (by assumption) (by first | omega | (simp; done) | (simp; omega) | (simp at *; omega)))))))
  clear c2_0 c2_1 o2_0 n2_0 t2_0_1 t2_0_2 t2_0_3
  have o3_0 : w.heap.size < w3.heap.size := by omega
  have n3_0 : w3.heap.size ≠ w.heap.size := by omega
  have t3_0_1 : w.heap.size < w3.heap.size + 1 := by omega
  have t3_0_2 : w.heap.size < w3.heap.size + 1 + 1 := by omega
  have t3_0_3 : w.heap.size < w3.heap.size + 1 + 1 + 1 := by omega
  have b3 : w.heap.size ≤ w3.heap.size := by omega
  clear hbw3
  go_wp2_with fail
  refine (HP.out _ (HX.out.below (by (repeat (first | (with_reducible refine Below.drew ?_) | (with_reducible refine below_drewN ?_ _) | (with_reducible refine Below.alloc ?_ (by first | omega | (simp; done) | (simp; omega) | (simp at *; omega)) _) | (with_reducible refine Below.setCell ?_ (by first | omega | (simp; done) | (simp; omega) | (simp at *; omega)) _) | (with_reducible exact Below.refl _ _) | (with_reducible assumption) | (with_reducible refine Below.trans ?_ (Below.mono (by assumption) (by first | omega | (simp; done) | (simp; omega) | (simp at *; omega))))))))).mono ?_
  rintro e w4 ⟨rfl, hbw4⟩
  have z4 := hbw4.size
  try simp at z4
  have c4_0 : w4.cell? ⟨w.heap.size, 0, none⟩ = some (.int .i64 o) := by rw [(bcell hbw4).1 _ _ (by first | (simp; done) | (simp; omega) | omega)]; simp [go_sem, World.cell?_alloc_past, *]
  have c4_1 : w4.cell? ⟨w.heap.size, 1, none⟩ = some (.int .i64 h) := by rw [(bcell hbw4).1 _ _ (by first | (simp; done) | (simp; omega) | omega)]; simp [go_sem, World.cell?_alloc_past, *]
  have hB4 : Below w.heap.size w w4 := (by (repeat (first | (with_reducible refine Below.drew ?_) | (with_reducible refine below_drewN ?_ _) | (with_reducible refine Below.alloc ?_ (by first | omega | (simp; done) | (simp; omega) | (simp at *; omega)) _) | (with_reducible refine Below.setCell ?_ (by first | omega | (simp; done) | (simp; omega) | (simp at *; omega)) _) | (with_reducible exact Below.refl _ _) | (with_reducible assumption) | (with_reducible refine Below.trans ?_ (Below.mono (by assumption) (by first | omega | (simp; done) | (simp; omega) | (simp at *; omega)))))))
  clear c3_0 c3_1 o3_0 n3_0 t3_0_1 t3_0_2 t3_0_3
  have o4_0 : w.heap.size < w4.heap.size := by omega
  have n4_0 : w4.heap.size ≠ w.heap.size := by omega
  have t4_0_1 : w.heap.size < w4.heap.size + 1 := by omega
  have t4_0_2 : w.heap.size < w4.heap.size + 1 + 1 := by omega
  have t4_0_3 : w.heap.size < w4.heap.size + 1 + 1 + 1 := by omega
  have b4 : w.heap.size ≤ w4.heap.size := by omega
  clear hbw4
  go_wp2_with fail
  refine (HR.out _).mono ?_
  rintro e w5 ⟨rfl, hbw5⟩
  have z5 := hbw5.size
  try simp at z5
  have c5_0 : w5.cell? ⟨w.heap.size, 0, none⟩ = some (.int .i64 o) := by rw [(bcell hbw5).1 _ _ (by first | (simp; done) | (simp; omega) | omega)]; simp [go_sem, World.cell?_alloc_past, *]
  have c5_1 : w5.cell? ⟨w.heap.size, 1, none⟩ = some (.int .i64 h) := by rw [(bcell hbw5).1 _ _ (by first | (simp; done) | (simp; omega) | omega)]; simp [go_sem, World.cell?_alloc_past, *]
  have c5_2 : w5.cell? ⟨w4.heap.size, 0, none⟩ = some (.int .i64 po) := by rw [(bcell hbw5).1 _ _ (by first | (simp; done) | (simp; omega) | omega)]; simp [go_sem, World.cell?_alloc_past, *]
  have c5_3 : w5.cell? ⟨w4.heap.size, 1, none⟩ = some (.int .i64 ph) := by rw [(bcell hbw5).1 _ _ (by first | (simp; done) | (simp; omega) | omega)]; simp [go_sem, World.cell?_alloc_past, *]
  have hB5 : Below w.heap.size w w5 := (by (repeat (first | (with_reducible refine Below.drew ?_) | (with_reducible refine below_drewN ?_ _) | (with_reducible refine Below.alloc ?_ (by first | omega | (simp; done) | (simp; omega) | (simp at *; omega)) _) | (with_reducible refine Below.setCell ?_ (by first | omega | (simp; done) | (simp; omega) | (simp at *; omega)) _) | (with_reducible exact Below.refl _ _) | (with_reducible assumption) | (with_reducible refine Below.trans ?_ (Below.mono (by assumption) (by first | omega | (simp; done) | (simp; omega) | (simp at *; omega)))))))
  clear c4_0 c4_1 o4_0 n4_0 t4_0_1 t4_0_2 t4_0_3
  have o5_0 : w.heap.size < w5.heap.size := by omega
  have n5_0 : w5.heap.size ≠ w.heap.size := by omega
  have t5_0_1 : w.heap.size < w5.heap.size + 1 := by omega
  have t5_0_2 : w.heap.size < w5.heap.size + 1 + 1 := by omega
  have t5_0_3 : w.heap.size < w5.heap.size + 1 + 1 + 1 := by omega
  have o5_1 : w4.heap.size < w5.heap.size := by omega
  have n5_1 : w5.heap.size ≠ w4.heap.size := by omega
  have t5_1_1 : w4.heap.size < w5.heap.size + 1 := by omega
  have t5_1_2 : w4.heap.size < w5.heap.size + 1 + 1 := by omega
  have t5_1_3 : w4.heap.size < w5.heap.size + 1 + 1 + 1 := by omega
  have b5 : w.heap.size ≤ w5.heap.size := by omega
  clear hbw5
  go_wp2_with (first | (go_at_call 9; ((with_reducible refine (refCheckGas_n o h c _ hg).mono ?_)); rintro e w' ⟨rfl, rfl⟩) | (go_at_call 10; ((with_reducible refine (CheckGas_n o h c _ hg).mono ?_)); rintro e w' ⟨rfl, rfl⟩))
  go_ret
  exact ⟨by first | rfl | (simp; done) | (simp [*]; done), (by (repeat (first | (with_reducible refine Below.drew ?_) | (with_reducible refine below_drewN ?_ _) | (with_reducible refine Below.alloc ?_ (by first | omega | (simp; done) | (simp; omega) | (simp at *; omega)) _) | (with_reducible refine Below.setCell ?_ (by first | omega | (simp; done) | (simp; omega) | (simp at *; omega)) _) | (with_reducible exact Below.refl _ _) | (with_reducible assumption) | (with_reducible refine Below.trans ?_ (Below.mono (by assumption) (by first | omega | (simp; done) | (simp; omega) | (simp at *; omega)))))))⟩
set_option maxRecDepth 100000 in
set_option maxHeartbeats 4000000 in
theorem nlaw_good (o h : Int) (S : ByteArray) (w : World) (m : Int) (HX : Hid (TxtOk w m)) (hl : S.size ≤ 40) (po ph pc : Int) (HP : Hid (∀ w, TxtOk w m → Calls Tryd.prog 7 #[.string S] w fun e w' => e = .returned (.tuple #[.agg #[.int .i64 po, .int .i64 ph], .int .i64 pc]) ∧ Below w.heap.size w w')) (HR : Hid (∀ w, Calls Tryd.prog 8 #[.string S] w fun e w' => e = .returned (.tuple #[.agg #[.int .i64 po, .int .i64 ph], .int .i64 pc]) ∧ Below w.heap.size w w')) (hg : Hid (gasE o h = 0)) (T : ByteArray) (hT : Hid (T = ⟨(fmtL o h).toArray⟩)) (g1 : 0 ≤ o) (g2 : o ≤ 1000) (g3 : 0 ≤ h) (g4 : h ≤ 1000) :
    Calls Tryd.prog 3 #[.agg #[.int .i64 o, .int .i64 h], .string S] w fun e w' => e = .returned (.bool true) ∧ Below w.heap.size w w' := by
  have hlm := World.block_lt_of_cell? _ _ HX.out.1
  have hne : w.heap.size ≠ 1 := by simp at hlm; omega
  have hl2 : 1 < w.heap.size := by simpa using hlm
  clear hlm
  go_enter Tryd.func3, Tryd.ntmps3
  go_wp2_with fail
  refine (awake_any _ m (by exact (HX.out.below (by (repeat (first | (with_reducible refine Below.drew ?_) | (with_reducible refine below_drewN ?_ _) | (with_reducible refine Below.alloc ?_ (by first | omega | (simp; done) | (simp; omega) | (simp at *; omega)) _) | (with_reducible refine Below.setCell ?_ (by first | omega | (simp; done) | (simp; omega) | (simp at *; omega)) _) | (with_reducible exact Below.refl _ _) | (with_reducible assumption) | (with_reducible refine Below.trans ?_ (Below.mono (by assumption) (by first | omega | (simp; done) | (simp; omega) | (simp at *; omega)))))))).1)).mono ?_
  rintro e w1 ⟨rfl, hbw1⟩
  have z1 := hbw1.size
  try simp at z1
  have c1_0 : w1.cell? ⟨w.heap.size, 0, none⟩ = some (.int .i64 o) := by rw [(bcell hbw1).1 _ _ (by first | (simp; done) | (simp; omega) | omega)]; simp [go_sem, World.cell?_alloc_past, *]
  have c1_1 : w1.cell? ⟨w.heap.size, 1, none⟩ = some (.int .i64 h) := by rw [(bcell hbw1).1 _ _ (by first | (simp; done) | (simp; omega) | omega)]; simp [go_sem, World.cell?_alloc_past, *]
  have hB1 : Below w.heap.size w w1 := (by (repeat (first | (with_reducible refine Below.drew ?_) | (with_reducible refine below_drewN ?_ _) | (with_reducible refine Below.alloc ?_ (by first | omega | (simp; done) | (simp; omega) | (simp at *; omega)) _) | (with_reducible refine Below.setCell ?_ (by first | omega | (simp; done) | (simp; omega) | (simp at *; omega)) _) | (with_reducible exact Below.refl _ _) | (with_reducible assumption) | (with_reducible refine Below.trans ?_ (Below.mono (by assumption) (by first | omega | (simp; done) | (simp; omega) | (simp at *; omega)))))))
  have o1_0 : w.heap.size < w1.heap.size := by omega
  have n1_0 : w1.heap.size ≠ w.heap.size := by omega
  have t1_0_1 : w.heap.size < w1.heap.size + 1 := by omega
  have t1_0_2 : w.heap.size < w1.heap.size + 1 + 1 := by omega
  have t1_0_3 : w.heap.size < w1.heap.size + 1 + 1 + 1 := by omega
  have b1 : w.heap.size ≤ w1.heap.size := by omega
  clear hbw1
  go_wp2_with fail
  refine (NitrogenOf_good o h _ hg).mono ?_
  rintro e w2 ⟨rfl, hbw2⟩
  have z2 := hbw2.size
  try simp at z2
  have c2_0 : w2.cell? ⟨w.heap.size, 0, none⟩ = some (.int .i64 o) := by rw [(bcell hbw2).1 _ _ (by first | (simp; done) | (simp; omega) | omega)]; simp [go_sem, World.cell?_alloc_past, *]
  have c2_1 : w2.cell? ⟨w.heap.size, 1, none⟩ = some (.int .i64 h) := by rw [(bcell hbw2).1 _ _ (by first | (simp; done) | (simp; omega) | omega)]; simp [go_sem, World.cell?_alloc_past, *]
  have hB2 : Below w.heap.size w w2 := (by (repeat (first | (with_reducible refine Below.drew ?_) | (with_reducible refine below_drewN ?_ _) | (with_reducible refine Below.alloc ?_ (by first | omega | (simp; done) | (simp; omega) | (simp at *; omega)) _) | (with_reducible refine Below.setCell ?_ (by first | omega | (simp; done) | (simp; omega) | (simp at *; omega)) _) | (with_reducible exact Below.refl _ _) | (with_reducible assumption) | (with_reducible refine Below.trans ?_ (Below.mono (by assumption) (by first | omega | (simp; done) | (simp; omega) | (simp at *; omega)))))))
  clear c1_0 c1_1 o1_0 n1_0 t1_0_1 t1_0_2 t1_0_3
  have o2_0 : w.heap.size < w2.heap.size := by omega
  have n2_0 : w2.heap.size ≠ w.heap.size := by omega
  have t2_0_1 : w.heap.size < w2.heap.size + 1 := by omega
  have t2_0_2 : w.heap.size < w2.heap.size + 1 + 1 := by omega
  have t2_0_3 : w.heap.size < w2.heap.size + 1 + 1 + 1 := by omega
  have b2 : w.heap.size ≤ w2.heap.size := by omega
  clear hbw2
  go_wp2_with fail
  refine (Format_is o h T _ hg.out (HX.out.below (by (repeat (first | (with_reducible refine Below.drew ?_) | (with_reducible refine below_drewN ?_ _) | (with_reducible refine Below.alloc ?_ (by first | omega | (simp; done) | (simp; omega) | (simp at *; omega)) _) | (with_reducible refine Below.setCell ?_ (by first | omega | (simp; done) | (simp; omega) | (simp at *; omega)) _) | (with_reducible exact Below.refl _ _) | (with_reducible assumption) | (with_reducible refine Below.trans ?_ (Below.mono (by assumption) (by first | omega | (simp; done) | (simp; omega) | (simp at *; omega)))))))).2.1 hT).mono ?_
  rintro e w3 ⟨rfl, hbw3⟩
  have z3 := hbw3.size
  try simp at z3
  have c3_0 : w3.cell? ⟨w.heap.size, 0, none⟩ = some (.int .i64 o) := by rw [(bcell hbw3).1 _ _ (by first | (simp; done) | (simp; omega) | omega)]; simp [go_sem, World.cell?_alloc_past, *]
  have c3_1 : w3.cell? ⟨w.heap.size, 1, none⟩ = some (.int .i64 h) := by rw [(bcell hbw3).1 _ _ (by first | (simp; done) | (simp; omega) | omega)]; simp [go_sem, World.cell?_alloc_past, *]
  have hB3 : Below w.heap.size w w3 := (by (repeat (first | (with_reducible refine Below.drew ?_) | (with_reducible refine below_drewN ?_ _) | (with_reducible refine Below.alloc ?_ (by first | omega | (simp; done) | (simp; omega) | (simp at *; omega)) _) | (with_reducible refine Below.setCell ?_ (by first | omega | (simp; done) | (simp; omega) | (simp at *; omega)) _) | (with_reducible exact Below.refl _ _) | (with_reducible assumption) | (with_reducible refine Below.trans ?_ (Below.mono (by assumption) (by first | omega | (simp; done) | (simp; omega) | (simp at *; omega)))))))
  clear c2_0 c2_1 o2_0 n2_0 t2_0_1 t2_0_2 t2_0_3
  have o3_0 : w.heap.size < w3.heap.size := by omega
  have n3_0 : w3.heap.size ≠ w.heap.size := by omega
  have t3_0_1 : w.heap.size < w3.heap.size + 1 := by omega
  have t3_0_2 : w.heap.size < w3.heap.size + 1 + 1 := by omega
  have t3_0_3 : w.heap.size < w3.heap.size + 1 + 1 + 1 := by omega
  have b3 : w.heap.size ≤ w3.heap.size := by omega
  clear hbw3
  go_wp2_with fail
  refine (HP.out _ (HX.out.below (by (repeat (first | (with_reducible refine Below.drew ?_) | (with_reducible refine below_drewN ?_ _) | (with_reducible refine Below.alloc ?_ (by first | omega | (simp; done) | (simp; omega) | (simp at *; omega)) _) | (with_reducible refine Below.setCell ?_ (by first | omega | (simp; done) | (simp; omega) | (simp at *; omega)) _) | (with_reducible exact Below.refl _ _) | (with_reducible assumption) | (with_reducible refine Below.trans ?_ (Below.mono (by assumption) (by first | omega | (simp; done) | (simp; omega) | (simp at *; omega))))))))).mono ?_
  rintro e w4 ⟨rfl, hbw4⟩
  have z4 := hbw4.size
  try simp at z4
  have c4_0 : w4.cell? ⟨w.heap.size, 0, none⟩ = some (.int .i64 o) := by rw [(bcell hbw4).1 _ _ (by first | (simp; done) | (simp; omega) | omega)]; simp [go_sem, World.cell?_alloc_past, *]
  have c4_1 : w4.cell? ⟨w.heap.size, 1, none⟩ = some (.int .i64 h) := by rw [(bcell hbw4).1 _ _ (by first | (simp; done) | (simp; omega) | omega)]; simp [go_sem, World.cell?_alloc_past, *]
  have hB4 : Below w.heap.size w w4 := (by (repeat (first | (with_reducible refine Below.drew ?_) | (with_reducible refine below_drewN ?_ _) | (with_reducible refine Below.alloc ?_ (by first | omega | (simp; done) | (simp; omega) | (simp at *; omega)) _) | (with_reducible refine Below.setCell ?_ (by first | omega | (simp; done) | (simp; omega) | (simp at *; omega)) _) | (with_reducible exact Below.refl _ _) | (with_reducible assumption) | (with_reducible refine Below.trans ?_ (Below.mono (by assumption) (by first | omega | (simp; done) | (simp; omega) | (simp at *; omega)))))))
  clear c3_0 c3_1 o3_0 n3_0 t3_0_1 t3_0_2 t3_0_3
  have o4_0 : w.heap.size < w4.heap.size := by omega
  have n4_0 : w4.heap.size ≠ w.heap.size := by omega
  have t4_0_1 : w.heap.size < w4.heap.size + 1 := by omega
  have t4_0_2 : w.heap.size < w4.heap.size + 1 + 1 := by omega
  have t4_0_3 : w.heap.size < w4.heap.size + 1 + 1 + 1 := by omega
  have b4 : w.heap.size ≤ w4.heap.size := by omega
  clear hbw4
  go_wp2_with fail
  refine (HR.out _).mono ?_
  rintro e w5 ⟨rfl, hbw5⟩
  have z5 := hbw5.size
  try simp at z5
  have c5_0 : w5.cell? ⟨w.heap.size, 0, none⟩ = some (.int .i64 o) := by rw [(bcell hbw5).1 _ _ (by first | (simp; done) | (simp; omega) | omega)]; simp [go_sem, World.cell?_alloc_past, *]
  have c5_1 : w5.cell? ⟨w.heap.size, 1, none⟩ = some (.int .i64 h) := by rw [(bcell hbw5).1 _ _ (by first | (simp; done) | (simp; omega) | omega)]; simp [go_sem, World.cell?_alloc_past, *]
  have c5_2 : w5.cell? ⟨w4.heap.size, 0, none⟩ = some (.int .i64 po) := by rw [(bcell hbw5).1 _ _ (by first | (simp; done) | (simp; omega) | omega)]; simp [go_sem, World.cell?_alloc_past, *]
  have c5_3 : w5.cell? ⟨w4.heap.size, 1, none⟩ = some (.int .i64 ph) := by rw [(bcell hbw5).1 _ _ (by first | (simp; done) | (simp; omega) | omega)]; simp [go_sem, World.cell?_alloc_past, *]
  have hB5 : Below w.heap.size w w5 := (by (repeat (first | (with_reducible refine Below.drew ?_) | (with_reducible refine below_drewN ?_ _) | (with_reducible refine Below.alloc ?_ (by first | omega | (simp; done) | (simp; omega) | (simp at *; omega)) _) | (with_reducible refine Below.setCell ?_ (by first | omega | (simp; done) | (simp; omega) | (simp at *; omega)) _) | (with_reducible exact Below.refl _ _) | (with_reducible assumption) | (with_reducible refine Below.trans ?_ (Below.mono (by assumption) (by first | omega | (simp; done) | (simp; omega) | (simp at *; omega)))))))
  clear c4_0 c4_1 o4_0 n4_0 t4_0_1 t4_0_2 t4_0_3
  have o5_0 : w.heap.size < w5.heap.size := by omega
  have n5_0 : w5.heap.size ≠ w.heap.size := by omega
  have t5_0_1 : w.heap.size < w5.heap.size + 1 := by omega
  have t5_0_2 : w.heap.size < w5.heap.size + 1 + 1 := by omega
  have t5_0_3 : w.heap.size < w5.heap.size + 1 + 1 + 1 := by omega
  have o5_1 : w4.heap.size < w5.heap.size := by omega
  have n5_1 : w5.heap.size ≠ w4.heap.size := by omega
  have t5_1_1 : w4.heap.size < w5.heap.size + 1 := by omega
  have t5_1_2 : w4.heap.size < w5.heap.size + 1 + 1 := by omega
  have t5_1_3 : w4.heap.size < w5.heap.size + 1 + 1 + 1 := by omega
  have b5 : w.heap.size ≤ w5.heap.size := by omega
  clear hbw5
  go_wp2_with (first | (go_at_call 9; ((with_reducible refine (refCheckGas_n o h 0 _ hg).mono ?_)); rintro e w' ⟨rfl, rfl⟩) | (go_at_call 10; ((with_reducible refine (CheckGas_n o h 0 _ hg).mono ?_)); rintro e w' ⟨rfl, rfl⟩))
  refine (Parse_fmt o h T _ m (by exact (HX.out.below (by (repeat (first | (with_reducible refine Below.drew ?_) | (with_reducible refine below_drewN ?_ _) | (with_reducible refine Below.alloc ?_ (by first | omega | (simp; done) | (simp; omega) | (simp at *; omega)) _) | (with_reducible refine Below.setCell ?_ (by first | omega | (simp; done) | (simp; omega) | (simp at *; omega)) _) | (with_reducible exact Below.refl _ _) | (with_reducible assumption) | (with_reducible refine Below.trans ?_ (Below.mono (by assumption) (by first | omega | (simp; done) | (simp; omega) | (simp at *; omega)))))))).1) (HX.out.below (by (repeat (first | (with_reducible refine Below.drew ?_) | (with_reducible refine below_drewN ?_ _) | (with_reducible refine Below.alloc ?_ (by first | omega | (simp; done) | (simp; omega) | (simp at *; omega)) _) | (with_reducible refine Below.setCell ?_ (by first | omega | (simp; done) | (simp; omega) | (simp at *; omega)) _) | (with_reducible exact Below.refl _ _) | (with_reducible assumption) | (with_reducible refine Below.trans ?_ (Below.mono (by assumption) (by first | omega | (simp; done) | (simp; omega) | (simp at *; omega)))))))).2.1 hg.out hT).mono ?_
  rintro e w6 ⟨rfl, hbw6⟩
  have z6 := hbw6.size
  try simp at z6
  have c6_0 : w6.cell? ⟨w.heap.size, 0, none⟩ = some (.int .i64 o) := by rw [(bcell hbw6).1 _ _ (by first | (simp; done) | (simp; omega) | omega)]; simp [go_sem, World.cell?_alloc_past, *]
  have c6_1 : w6.cell? ⟨w.heap.size, 1, none⟩ = some (.int .i64 h) := by rw [(bcell hbw6).1 _ _ (by first | (simp; done) | (simp; omega) | omega)]; simp [go_sem, World.cell?_alloc_past, *]
  have c6_2 : w6.cell? ⟨w4.heap.size, 0, none⟩ = some (.int .i64 po) := by rw [(bcell hbw6).1 _ _ (by first | (simp; done) | (simp; omega) | omega)]; simp [go_sem, World.cell?_alloc_past, *]
  have c6_3 : w6.cell? ⟨w4.heap.size, 1, none⟩ = some (.int .i64 ph) := by rw [(bcell hbw6).1 _ _ (by first | (simp; done) | (simp; omega) | omega)]; simp [go_sem, World.cell?_alloc_past, *]
  have c6_4 : w6.cell? ⟨w5.heap.size, 0, none⟩ = some (.int .i64 po) := by rw [(bcell hbw6).1 _ _ (by first | (simp; done) | (simp; omega) | omega)]; simp [go_sem, World.cell?_alloc_past, *]
  have c6_5 : w6.cell? ⟨w5.heap.size, 1, none⟩ = some (.int .i64 ph) := by rw [(bcell hbw6).1 _ _ (by first | (simp; done) | (simp; omega) | omega)]; simp [go_sem, World.cell?_alloc_past, *]
  have hB6 : Below w.heap.size w w6 := (by (repeat (first | (with_reducible refine Below.drew ?_) | (with_reducible refine below_drewN ?_ _) | (with_reducible refine Below.alloc ?_ (by first | omega | (simp; done) | (simp; omega) | (simp at *; omega)) _) | (with_reducible refine Below.setCell ?_ (by first | omega | (simp; done) | (simp; omega) | (simp at *; omega)) _) | (with_reducible exact Below.refl _ _) | (with_reducible assumption) | (with_reducible refine Below.trans ?_ (Below.mono (by assumption) (by first | omega | (simp; done) | (simp; omega) | (simp at *; omega)))))))
  clear c5_0 c5_1 c5_2 c5_3 o5_0 n5_0 t5_0_1 t5_0_2 t5_0_3 o5_1 n5_1 t5_1_1 t5_1_2 t5_1_3
  have o6_0 : w.heap.size < w6.heap.size := by omega
  have n6_0 : w6.heap.size ≠ w.heap.size := by omega
  have t6_0_1 : w.heap.size < w6.heap.size + 1 := by omega
  have t6_0_2 : w.heap.size < w6.heap.size + 1 + 1 := by omega
  have t6_0_3 : w.heap.size < w6.heap.size + 1 + 1 + 1 := by omega
  have o6_1 : w4.heap.size < w6.heap.size := by omega
  have n6_1 : w6.heap.size ≠ w4.heap.size := by omega
  have t6_1_1 : w4.heap.size < w6.heap.size + 1 := by omega
  have t6_1_2 : w4.heap.size < w6.heap.size + 1 + 1 := by omega
  have t6_1_3 : w4.heap.size < w6.heap.size + 1 + 1 + 1 := by omega
  have o6_2 : w5.heap.size < w6.heap.size := by omega
  have n6_2 : w6.heap.size ≠ w5.heap.size := by omega
  have t6_2_1 : w5.heap.size < w6.heap.size + 1 := by omega
  have t6_2_2 : w5.heap.size < w6.heap.size + 1 + 1 := by omega
  have t6_2_3 : w5.heap.size < w6.heap.size + 1 + 1 + 1 := by omega
  have b6 : w.heap.size ≤ w6.heap.size := by omega
  clear hbw6
  go_wp2_with ((go_at_call 11; ((with_reducible refine (refNitrogen_n _ _ _ g1 g2 g3 g4).mono ?_)); rintro e w' ⟨rfl, rfl⟩))
  refine (refFormat_is o h T _ hg.out hT).mono ?_
  rintro e w7 ⟨rfl, hbw7⟩
  have z7 := hbw7.size
  try simp at z7
  have c7_0 : w7.cell? ⟨w.heap.size, 0, none⟩ = some (.int .i64 o) := by rw [(bcell hbw7).1 _ _ (by first | (simp; done) | (simp; omega) | omega)]; simp [go_sem, World.cell?_alloc_past, *]
  have c7_1 : w7.cell? ⟨w.heap.size, 1, none⟩ = some (.int .i64 h) := by rw [(bcell hbw7).1 _ _ (by first | (simp; done) | (simp; omega) | omega)]; simp [go_sem, World.cell?_alloc_past, *]
  have c7_2 : w7.cell? ⟨w4.heap.size, 0, none⟩ = some (.int .i64 po) := by rw [(bcell hbw7).1 _ _ (by first | (simp; done) | (simp; omega) | omega)]; simp [go_sem, World.cell?_alloc_past, *]
  have c7_3 : w7.cell? ⟨w4.heap.size, 1, none⟩ = some (.int .i64 ph) := by rw [(bcell hbw7).1 _ _ (by first | (simp; done) | (simp; omega) | omega)]; simp [go_sem, World.cell?_alloc_past, *]
  have c7_4 : w7.cell? ⟨w5.heap.size, 0, none⟩ = some (.int .i64 po) := by rw [(bcell hbw7).1 _ _ (by first | (simp; done) | (simp; omega) | omega)]; simp [go_sem, World.cell?_alloc_past, *]
  have c7_5 : w7.cell? ⟨w5.heap.size, 1, none⟩ = some (.int .i64 ph) := by rw [(bcell hbw7).1 _ _ (by first | (simp; done) | (simp; omega) | omega)]; simp [go_sem, World.cell?_alloc_past, *]
  have c7_6 : w7.cell? ⟨w6.heap.size, 0, none⟩ = some (.int .i64 o) := by rw [(bcell hbw7).1 _ _ (by first | (simp; done) | (simp; omega) | omega)]; simp [go_sem, World.cell?_alloc_past, *]
  have c7_7 : w7.cell? ⟨w6.heap.size, 1, none⟩ = some (.int .i64 h) := by rw [(bcell hbw7).1 _ _ (by first | (simp; done) | (simp; omega) | omega)]; simp [go_sem, World.cell?_alloc_past, *]
  have hB7 : Below w.heap.size w w7 := (by (repeat (first | (with_reducible refine Below.drew ?_) | (with_reducible refine below_drewN ?_ _) | (with_reducible refine Below.alloc ?_ (by first | omega | (simp; done) | (simp; omega) | (simp at *; omega)) _) | (with_reducible refine Below.setCell ?_ (by first | omega | (simp; done) | (simp; omega) | (simp at *; omega)) _) | (with_reducible exact Below.refl _ _) | (with_reducible assumption) | (with_reducible refine Below.trans ?_ (Below.mono (by assumption) (by first | omega | (simp; done) | (simp; omega) | (simp at *; omega)))))))
  clear c6_0 c6_1 c6_2 c6_3 c6_4 c6_5 o6_0 n6_0 t6_0_1 t6_0_2 t6_0_3 o6_1 n6_1 t6_1_1 t6_1_2 t6_1_3 o6_2 n6_2 t6_2_1 t6_2_2 t6_2_3
  have o7_0 : w.heap.size < w7.heap.size := by omega
  have n7_0 : w7.heap.size ≠ w.heap.size := by omega
  have t7_0_1 : w.heap.size < w7.heap.size + 1 := by omega
  have t7_0_2 : w.heap.size < w7.heap.size + 1 + 1 := by omega
  have t7_0_3 : w.heap.size < w7.heap.size + 1 + 1 + 1 := by omega
  have o7_1 : w4.heap.size < w7.heap.size := by omega
  have n7_1 : w7.heap.size ≠ w4.heap.size := by omega
  have t7_1_1 : w4.heap.size < w7.heap.size + 1 := by omega
  have t7_1_2 : w4.heap.size < w7.heap.size + 1 + 1 := by omega
  have t7_1_3 : w4.heap.size < w7.heap.size + 1 + 1 + 1 := by omega
  have o7_2 : w5.heap.size < w7.heap.size := by omega
  have n7_2 : w7.heap.size ≠ w5.heap.size := by omega
  have t7_2_1 : w5.heap.size < w7.heap.size + 1 := by omega
  have t7_2_2 : w5.heap.size < w7.heap.size + 1 + 1 := by omega
  have t7_2_3 : w5.heap.size < w7.heap.size + 1 + 1 + 1 := by omega
  have o7_3 : w6.heap.size < w7.heap.size := by omega
  have n7_3 : w7.heap.size ≠ w6.heap.size := by omega
  have t7_3_1 : w6.heap.size < w7.heap.size + 1 := by omega
  have t7_3_2 : w6.heap.size < w7.heap.size + 1 + 1 := by omega
  have t7_3_3 : w6.heap.size < w7.heap.size + 1 + 1 + 1 := by omega
  have b7 : w.heap.size ≤ w7.heap.size := by omega
  clear hbw7
  go_wp2
  go_ret
  exact ⟨by first | rfl | (simp; done) | (simp [*]; done), (by (repeat (first | (with_reducible refine Below.drew ?_) | (with_reducible refine below_drewN ?_ _) | (with_reducible refine Below.alloc ?_ (by first | omega | (simp; done) | (simp; omega) | (simp at *; omega)) _) | (with_reducible refine Below.setCell ?_ (by first | omega | (simp; done) | (simp; omega) | (simp at *; omega)) _) | (with_reducible exact Below.refl _ _) | (with_reducible assumption) | (with_reducible refine Below.trans ?_ (Below.mono (by assumption) (by first | omega | (simp; done) | (simp; omega) | (simp at *; omega)))))))⟩
theorem gasNames_any (o h : Int) (S : ByteArray) (w : World) (m : Int) (HX : TxtOk w m) :
    Calls Tryd.prog 3 #[.agg #[.int .i64 o, .int .i64 h], .string S] w fun e w' => e = .returned (.bool true) ∧ Below w.heap.size w w' := by
  by_cases hl : S.size ≤ 40
  · have key : ∀ (po ph pc : Int), (∀ w, TxtOk w m → Calls Tryd.prog 7 #[.string S] w fun e w' => e = .returned (.tuple #[.agg #[.int .i64 po, .int .i64 ph], .int .i64 pc]) ∧ Below w.heap.size w w') → (∀ w, Calls Tryd.prog 8 #[.string S] w fun e w' => e = .returned (.tuple #[.agg #[.int .i64 po, .int .i64 ph], .int .i64 pc]) ∧ Below w.heap.size w w') → Calls Tryd.prog 3 #[.agg #[.int .i64 o, .int .i64 h], .string S] w fun e w' => e = .returned (.bool true) ∧ Below w.heap.size w w' := by
      intro po ph pc hP hR
      rcases ez (gasE o h) with ⟨hg, hgb⟩ | ⟨hg, hgb⟩
      · have hg0 : gasE o h = 0 := by simpa using hgb
        obtain ⟨g1, g2, g3, g4, _⟩ := gasE_z hg0
        exact nlaw_good o h S w m HX hl po ph pc hP hR hg0 _ rfl g1 g2 g3 g4
      · exact nlaw_bad o h S w m HX hl po ph pc hP hR _ rfl hgb (by simpa using hg.out)
    by_cases hv : ∃ a b, gasE a b = 0 ∧ S = ⟨(fmtL a b).toArray⟩
    · obtain ⟨a, b, hab, hS⟩ := hv
      exact key a b 0 (fun w hx => Parse_fmt a b S w m hx.1 hx.2.1 hab hS) (fun w => refParse_fmt a b S w hab hS)
    · have HN : NoGas S := fun a b hab hS => hv ⟨a, b, hab, hS⟩
      exact key 0 0 7 (fun w hx => Parse_none S w m hx.1 hx.2.1 hx.2.2 (by omega) HN) (fun w => refParse_none S w hl HN)
  · exact nlaw_long o h S w m HX (by omega)
end Go.Proofs.YtpagbkbaphjmdaaDoor
