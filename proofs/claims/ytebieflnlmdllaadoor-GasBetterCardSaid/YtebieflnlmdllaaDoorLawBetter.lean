/- The walk of shotlinelaw01.GasBetter: it returns true. -/
import Derived.Test.YtebieflnlmdllaaDoorLawBest
import Derived.Test.YtebieflnlmdllaaDoorRichest
import Derived.Outline
namespace Go.Proofs.YtebieflnlmdllaaDoor
open Go.ChangeShapes Go.WideShapes Go.ChangeAt Go.RowKit
set_option linter.unusedVariables false
set_option linter.unusedSimpArgs false
attribute [local go_sem ↓] Go.wp_at_zero Go.wp_at_succ

theorem oldCell2 {w w' : World} {b o : Nat} {v : Value} (hb : Below w.heap.size w w') (h : w.cell? ⟨b, o, none⟩ = some v) : w'.cell? ⟨b, o, none⟩ = some v :=
  (hb.cell (p := ⟨b, o, none⟩) (by have := World.block_lt_of_cell? _ _ h; simpa using this)).trans h
theorem refCheckGas_c (o h c : Int) (w : World) (hc : Hid (gasE o h = c)) :
    Calls Tryd.prog 20 #[.agg #[.int .i64 o, .int .i64 h]] w fun e w' => e = .returned (.int .i64 c) ∧ w.alloc (.cells #[.int .i64 o, .int .i64 h] 23) = w' := by
  have := refCheckGas_any o h w
  rw [hc.out] at this
  exact this
theorem rch1 (x y s d a b n : Int) (m : Bool) (hg : gasE x y = 0) (hc : aimE s d a b n = 0) (hm : metB x y s a b n (s + d) = m) :
    rchOut [⟨x, y⟩] s d a b n = 0 ∧ rchErr [⟨x, y⟩] s d a b n = if m = true then 0 else 12 := by
  have h1 : rchE [⟨x, y⟩] s d a b n = 0 := by
    unfold rchE gasesE gasesE1 gasesE1
    simp [hg, hc, firE]
  have h2 : rchV [⟨x, y⟩] s d a b n = if m = true then 0 else -1 := by
    unfold rchV rchM richTo richTo
    simp [List.getD, hm]
    all_goals (cases m <;> simp [richTo])
  unfold rchOut rchErr
  rw [if_pos h1, if_pos h1, h2]
  cases m <;> simp
theorem Rich1 (x y s d a b n : Int) (m : Bool) (bk : Nat) (w : World) (h0 : w.cell? ⟨bk, 0, none⟩ = some (.int .i64 x)) (h1 : w.cell? ⟨bk, 1, none⟩ = some (.int .i64 y)) (hg : Hid (gasE x y = 0)) (hc : Hid (aimE s d a b n = 0)) (hm : Hid (metB x y s a b n (s + d) = m)) :
    Calls Tryd.prog 42 #[.slice (some ⟨bk, 0, none⟩) 1 1, .agg #[.int .i64 s, .int .i64 d, .int .i64 a, .int .i64 b, .int .i64 n]] w fun e w' => e = .returned (.tuple #[.int .i64 0, .int .i64 (if m = true then 0 else 12)]) ∧ Below w.heap.size w w' := by
  have hl := World.block_lt_of_cell? _ _ h0
  have hl2 : bk < w.heap.size := by simpa using hl
  have := Richest_any [⟨x, y⟩] (some ⟨bk, 0, none⟩) 1 s d a b n w (by simp) (Or.inr ⟨bk, 0, rfl, hl2, by
    intro k hk
    obtain rfl : k = 0 := by simp at hk; omega
    exact ⟨by simpa using h0, by simpa using h1⟩⟩)
  obtain ⟨e1, e2⟩ := rch1 x y s d a b n m hg.out hc.out hm.out
  rw [e1, e2] at this
  exact this
set_option maxRecDepth 100000 in
set_option maxHeartbeats 4000000 in
theorem tlaw_p (s d a b n x y : Int) (w : World) (m : Int) (hm : w.cell? ⟨1, 0, none⟩ = some (.int .i64 m)) (c : Int) (hc : Hid (aimE s d a b n = c)) (hn : (c != 0) = true) :
    Calls Tryd.prog 10 #[.agg #[.int .i64 s, .int .i64 d, .int .i64 a, .int .i64 b, .int .i64 n], .agg #[.int .i64 x, .int .i64 y]] w fun e w' => e = .returned (.bool true) ∧ Below w.heap.size w w' := by
  have hl := World.block_lt_of_cell? _ _ hm
  have hne : w.heap.size ≠ 1 := by simp at hl; omega
  have hl2 : 1 < w.heap.size := by simpa using hl
  go_enter Tryd.func10, Tryd.ntmps10
  go_wp2_with fail
  refine (awake_any _ m (by exact oldCell2 (by (repeat (first | (with_reducible refine Below.drew ?_) | (with_reducible refine below_drewN ?_ _) | (with_reducible refine Below.alloc ?_ (by first | omega | (simp; done) | (simp; omega) | (simp at *; omega)) _) | (with_reducible refine Below.setCell ?_ (by first | omega | (simp; done) | (simp; omega) | (simp at *; omega)) _) | (with_reducible exact Below.refl _ _) | (with_reducible assumption) | (with_reducible refine Below.trans ?_ (Below.mono (by assumption) (by first | omega | (simp; done) | (simp; omega) | (simp at *; omega))))))) hm)).mono ?_
  rintro e w1 ⟨rfl, hbw1⟩
  have z1 := hbw1.size
  try simp at z1
  have c1_0 : w1.cell? ⟨w.heap.size, 0, none⟩ = some (.int .i64 s) := by rw [(bcell hbw1).1 _ _ (by first | (simp; done) | (simp; omega) | omega)]; simp [go_sem, World.cell?_alloc_past, *]
  have c1_1 : w1.cell? ⟨w.heap.size, 1, none⟩ = some (.int .i64 d) := by rw [(bcell hbw1).1 _ _ (by first | (simp; done) | (simp; omega) | omega)]; simp [go_sem, World.cell?_alloc_past, *]
  have c1_2 : w1.cell? ⟨w.heap.size, 2, none⟩ = some (.int .i64 a) := by rw [(bcell hbw1).1 _ _ (by first | (simp; done) | (simp; omega) | omega)]; simp [go_sem, World.cell?_alloc_past, *]
  have c1_3 : w1.cell? ⟨w.heap.size, 3, none⟩ = some (.int .i64 b) := by rw [(bcell hbw1).1 _ _ (by first | (simp; done) | (simp; omega) | omega)]; simp [go_sem, World.cell?_alloc_past, *]
  have c1_4 : w1.cell? ⟨w.heap.size, 4, none⟩ = some (.int .i64 n) := by rw [(bcell hbw1).1 _ _ (by first | (simp; done) | (simp; omega) | omega)]; simp [go_sem, World.cell?_alloc_past, *]
  have c1_5 : w1.cell? ⟨w.heap.size + 1, 0, none⟩ = some (.int .i64 x) := by rw [(bcell hbw1).1 _ _ (by first | (simp; done) | (simp; omega) | omega)]; simp [go_sem, World.cell?_alloc_past, *]
  have c1_6 : w1.cell? ⟨w.heap.size + 1, 1, none⟩ = some (.int .i64 y) := by rw [(bcell hbw1).1 _ _ (by first | (simp; done) | (simp; omega) | omega)]; simp [go_sem, World.cell?_alloc_past, *]
  have hB1 : Below w.heap.size w w1 := (by (repeat (first | (with_reducible refine Below.drew ?_) | (with_reducible refine below_drewN ?_ _) | (with_reducible refine Below.alloc ?_ (by first | omega | (simp; done) | (simp; omega) | (simp at *; omega)) _) | (with_reducible refine Below.setCell ?_ (by first | omega | (simp; done) | (simp; omega) | (simp at *; omega)) _) | (with_reducible exact Below.refl _ _) | (with_reducible assumption) | (with_reducible refine Below.trans ?_ (Below.mono (by assumption) (by first | omega | (simp; done) | (simp; omega) | (simp at *; omega)))))))
  have o1_0 : w.heap.size < w1.heap.size := by omega
  have n1_0 : w1.heap.size ≠ w.heap.size := by omega
  have t1_0_1 : w.heap.size < w1.heap.size + 1 := by omega
  have t1_0_2 : w.heap.size < w1.heap.size + 1 + 1 := by omega
  have t1_0_3 : w.heap.size < w1.heap.size + 1 + 1 + 1 := by omega
  have t1_0_4 : w.heap.size < w1.heap.size + 1 + 1 + 1 + 1 := by omega
  have t1_0_5 : w.heap.size < w1.heap.size + 1 + 1 + 1 + 1 + 1 := by omega
  have t1_0_6 : w.heap.size < w1.heap.size + 1 + 1 + 1 + 1 + 1 + 1 := by omega
  have t1_0_7 : w.heap.size < w1.heap.size + 1 + 1 + 1 + 1 + 1 + 1 + 1 := by omega
  have o1_1 : w.heap.size + 1 < w1.heap.size := by omega
  have n1_1 : w1.heap.size ≠ w.heap.size + 1 := by omega
  have t1_1_1 : w.heap.size + 1 < w1.heap.size + 1 := by omega
  have t1_1_2 : w.heap.size + 1 < w1.heap.size + 1 + 1 := by omega
  have t1_1_3 : w.heap.size + 1 < w1.heap.size + 1 + 1 + 1 := by omega
  have t1_1_4 : w.heap.size + 1 < w1.heap.size + 1 + 1 + 1 + 1 := by omega
  have t1_1_5 : w.heap.size + 1 < w1.heap.size + 1 + 1 + 1 + 1 + 1 := by omega
  have t1_1_6 : w.heap.size + 1 < w1.heap.size + 1 + 1 + 1 + 1 + 1 + 1 := by omega
  have t1_1_7 : w.heap.size + 1 < w1.heap.size + 1 + 1 + 1 + 1 + 1 + 1 + 1 := by omega
  have b1 : w.heap.size ≤ w1.heap.size := by omega
  clear hbw1
  go_wp2_with fail
  refine (refCheckAim_is _ _ _ _ _ c _ hc).mono ?_
  rintro e w2 ⟨rfl, hbw2⟩
  have z2 := hbw2.size
  try simp at z2
  have c2_0 : w2.cell? ⟨w.heap.size, 0, none⟩ = some (.int .i64 s) := by rw [(bcell hbw2).1 _ _ (by first | (simp; done) | (simp; omega) | omega)]; simp [go_sem, World.cell?_alloc_past, *]
  have c2_1 : w2.cell? ⟨w.heap.size, 1, none⟩ = some (.int .i64 d) := by rw [(bcell hbw2).1 _ _ (by first | (simp; done) | (simp; omega) | omega)]; simp [go_sem, World.cell?_alloc_past, *]
  have c2_2 : w2.cell? ⟨w.heap.size, 2, none⟩ = some (.int .i64 a) := by rw [(bcell hbw2).1 _ _ (by first | (simp; done) | (simp; omega) | omega)]; simp [go_sem, World.cell?_alloc_past, *]
  have c2_3 : w2.cell? ⟨w.heap.size, 3, none⟩ = some (.int .i64 b) := by rw [(bcell hbw2).1 _ _ (by first | (simp; done) | (simp; omega) | omega)]; simp [go_sem, World.cell?_alloc_past, *]
  have c2_4 : w2.cell? ⟨w.heap.size, 4, none⟩ = some (.int .i64 n) := by rw [(bcell hbw2).1 _ _ (by first | (simp; done) | (simp; omega) | omega)]; simp [go_sem, World.cell?_alloc_past, *]
  have c2_5 : w2.cell? ⟨w.heap.size + 1, 0, none⟩ = some (.int .i64 x) := by rw [(bcell hbw2).1 _ _ (by first | (simp; done) | (simp; omega) | omega)]; simp [go_sem, World.cell?_alloc_past, *]
  have c2_6 : w2.cell? ⟨w.heap.size + 1, 1, none⟩ = some (.int .i64 y) := by rw [(bcell hbw2).1 _ _ (by first | (simp; done) | (simp; omega) | omega)]; simp [go_sem, World.cell?_alloc_past, *]
  have hB2 : Below w.heap.size w w2 := (by (repeat (first | (with_reducible refine Below.drew ?_) | (with_reducible refine below_drewN ?_ _) | (with_reducible refine Below.alloc ?_ (by first | omega | (simp; done) | (simp; omega) | (simp at *; omega)) _) | (with_reducible refine Below.setCell ?_ (by first | omega | (simp; done) | (simp; omega) | (simp at *; omega)) _) | (with_reducible exact Below.refl _ _) | (with_reducible assumption) | (with_reducible refine Below.trans ?_ (Below.mono (by assumption) (by first | omega | (simp; done) | (simp; omega) | (simp at *; omega)))))))
  clear c1_0 c1_1 c1_2 c1_3 c1_4 c1_5 c1_6 o1_0 n1_0 t1_0_1 t1_0_2 t1_0_3 t1_0_4 t1_0_5 t1_0_6 t1_0_7 o1_1 n1_1 t1_1_1 t1_1_2 t1_1_3 t1_1_4 t1_1_5 t1_1_6 t1_1_7
  have o2_0 : w.heap.size < w2.heap.size := by omega
  have n2_0 : w2.heap.size ≠ w.heap.size := by omega
  have t2_0_1 : w.heap.size < w2.heap.size + 1 := by omega
  have t2_0_2 : w.heap.size < w2.heap.size + 1 + 1 := by omega
  have t2_0_3 : w.heap.size < w2.heap.size + 1 + 1 + 1 := by omega
  have t2_0_4 : w.heap.size < w2.heap.size + 1 + 1 + 1 + 1 := by omega
  have t2_0_5 : w.heap.size < w2.heap.size + 1 + 1 + 1 + 1 + 1 := by omega
  have t2_0_6 : w.heap.size < w2.heap.size + 1 + 1 + 1 + 1 + 1 + 1 := by omega
  have t2_0_7 : w.heap.size < w2.heap.size + 1 + 1 + 1 + 1 + 1 + 1 + 1 := by omega
  have o2_1 : w.heap.size + 1 < w2.heap.size := by omega
  have n2_1 : w2.heap.size ≠ w.heap.size + 1 := by omega
  have t2_1_1 : w.heap.size + 1 < w2.heap.size + 1 := by omega
  have t2_1_2 : w.heap.size + 1 < w2.heap.size + 1 + 1 := by omega
  have t2_1_3 : w.heap.size + 1 < w2.heap.size + 1 + 1 + 1 := by omega
  have t2_1_4 : w.heap.size + 1 < w2.heap.size + 1 + 1 + 1 + 1 := by omega
  have t2_1_5 : w.heap.size + 1 < w2.heap.size + 1 + 1 + 1 + 1 + 1 := by omega
  have t2_1_6 : w.heap.size + 1 < w2.heap.size + 1 + 1 + 1 + 1 + 1 + 1 := by omega
  have t2_1_7 : w.heap.size + 1 < w2.heap.size + 1 + 1 + 1 + 1 + 1 + 1 + 1 := by omega
  have b2 : w.heap.size ≤ w2.heap.size := by omega
  clear hbw2
  go_wp2
  go_ret
  exact ⟨rfl, (by (repeat (first | (with_reducible refine Below.drew ?_) | (with_reducible refine below_drewN ?_ _) | (with_reducible refine Below.alloc ?_ (by first | omega | (simp; done) | (simp; omega) | (simp at *; omega)) _) | (with_reducible refine Below.setCell ?_ (by first | omega | (simp; done) | (simp; omega) | (simp at *; omega)) _) | (with_reducible exact Below.refl _ _) | (with_reducible assumption) | (with_reducible refine Below.trans ?_ (Below.mono (by assumption) (by first | omega | (simp; done) | (simp; omega) | (simp at *; omega)))))))⟩
set_option maxRecDepth 100000 in
set_option maxHeartbeats 4000000 in
theorem tlaw_g (s d a b n x y : Int) (w : World) (m : Int) (hm : w.cell? ⟨1, 0, none⟩ = some (.int .i64 m)) (c : Int) (hc : Hid (aimE s d a b n = 0)) (hg : Hid (gasE x y = c)) (hn : (c != 0) = true) :
    Calls Tryd.prog 10 #[.agg #[.int .i64 s, .int .i64 d, .int .i64 a, .int .i64 b, .int .i64 n], .agg #[.int .i64 x, .int .i64 y]] w fun e w' => e = .returned (.bool true) ∧ Below w.heap.size w w' := by
  have hl := World.block_lt_of_cell? _ _ hm
  have hne : w.heap.size ≠ 1 := by simp at hl; omega
  have hl2 : 1 < w.heap.size := by simpa using hl
  go_enter Tryd.func10, Tryd.ntmps10
  go_wp2_with fail
  refine (awake_any _ m (by exact oldCell2 (by (repeat (first | (with_reducible refine Below.drew ?_) | (with_reducible refine below_drewN ?_ _) | (with_reducible refine Below.alloc ?_ (by first | omega | (simp; done) | (simp; omega) | (simp at *; omega)) _) | (with_reducible refine Below.setCell ?_ (by first | omega | (simp; done) | (simp; omega) | (simp at *; omega)) _) | (with_reducible exact Below.refl _ _) | (with_reducible assumption) | (with_reducible refine Below.trans ?_ (Below.mono (by assumption) (by first | omega | (simp; done) | (simp; omega) | (simp at *; omega))))))) hm)).mono ?_
  rintro e w1 ⟨rfl, hbw1⟩
  have z1 := hbw1.size
  try simp at z1
  have c1_0 : w1.cell? ⟨w.heap.size, 0, none⟩ = some (.int .i64 s) := by rw [(bcell hbw1).1 _ _ (by first | (simp; done) | (simp; omega) | omega)]; simp [go_sem, World.cell?_alloc_past, *]
  have c1_1 : w1.cell? ⟨w.heap.size, 1, none⟩ = some (.int .i64 d) := by rw [(bcell hbw1).1 _ _ (by first | (simp; done) | (simp; omega) | omega)]; simp [go_sem, World.cell?_alloc_past, *]
  have c1_2 : w1.cell? ⟨w.heap.size, 2, none⟩ = some (.int .i64 a) := by rw [(bcell hbw1).1 _ _ (by first | (simp; done) | (simp; omega) | omega)]; simp [go_sem, World.cell?_alloc_past, *]
  have c1_3 : w1.cell? ⟨w.heap.size, 3, none⟩ = some (.int .i64 b) := by rw [(bcell hbw1).1 _ _ (by first | (simp; done) | (simp; omega) | omega)]; simp [go_sem, World.cell?_alloc_past, *]
  have c1_4 : w1.cell? ⟨w.heap.size, 4, none⟩ = some (.int .i64 n) := by rw [(bcell hbw1).1 _ _ (by first | (simp; done) | (simp; omega) | omega)]; simp [go_sem, World.cell?_alloc_past, *]
  have c1_5 : w1.cell? ⟨w.heap.size + 1, 0, none⟩ = some (.int .i64 x) := by rw [(bcell hbw1).1 _ _ (by first | (simp; done) | (simp; omega) | omega)]; simp [go_sem, World.cell?_alloc_past, *]
  have c1_6 : w1.cell? ⟨w.heap.size + 1, 1, none⟩ = some (.int .i64 y) := by rw [(bcell hbw1).1 _ _ (by first | (simp; done) | (simp; omega) | omega)]; simp [go_sem, World.cell?_alloc_past, *]
  have hB1 : Below w.heap.size w w1 := (by (repeat (first | (with_reducible refine Below.drew ?_) | (with_reducible refine below_drewN ?_ _) | (with_reducible refine Below.alloc ?_ (by first | omega | (simp; done) | (simp; omega) | (simp at *; omega)) _) | (with_reducible refine Below.setCell ?_ (by first | omega | (simp; done) | (simp; omega) | (simp at *; omega)) _) | (with_reducible exact Below.refl _ _) | (with_reducible assumption) | (with_reducible refine Below.trans ?_ (Below.mono (by assumption) (by first | omega | (simp; done) | (simp; omega) | (simp at *; omega)))))))
  have o1_0 : w.heap.size < w1.heap.size := by omega
  have n1_0 : w1.heap.size ≠ w.heap.size := by omega
  have t1_0_1 : w.heap.size < w1.heap.size + 1 := by omega
  have t1_0_2 : w.heap.size < w1.heap.size + 1 + 1 := by omega
  have t1_0_3 : w.heap.size < w1.heap.size + 1 + 1 + 1 := by omega
  have t1_0_4 : w.heap.size < w1.heap.size + 1 + 1 + 1 + 1 := by omega
  have t1_0_5 : w.heap.size < w1.heap.size + 1 + 1 + 1 + 1 + 1 := by omega
  have t1_0_6 : w.heap.size < w1.heap.size + 1 + 1 + 1 + 1 + 1 + 1 := by omega
  have t1_0_7 : w.heap.size < w1.heap.size + 1 + 1 + 1 + 1 + 1 + 1 + 1 := by omega
  have o1_1 : w.heap.size + 1 < w1.heap.size := by omega
  have n1_1 : w1.heap.size ≠ w.heap.size + 1 := by omega
  have t1_1_1 : w.heap.size + 1 < w1.heap.size + 1 := by omega
  have t1_1_2 : w.heap.size + 1 < w1.heap.size + 1 + 1 := by omega
  have t1_1_3 : w.heap.size + 1 < w1.heap.size + 1 + 1 + 1 := by omega
  have t1_1_4 : w.heap.size + 1 < w1.heap.size + 1 + 1 + 1 + 1 := by omega
  have t1_1_5 : w.heap.size + 1 < w1.heap.size + 1 + 1 + 1 + 1 + 1 := by omega
  have t1_1_6 : w.heap.size + 1 < w1.heap.size + 1 + 1 + 1 + 1 + 1 + 1 := by omega
  have t1_1_7 : w.heap.size + 1 < w1.heap.size + 1 + 1 + 1 + 1 + 1 + 1 + 1 := by omega
  have b1 : w.heap.size ≤ w1.heap.size := by omega
  clear hbw1
  go_wp2_with fail
  refine (refCheckAim_is _ _ _ _ _ 0 _ hc).mono ?_
  rintro e w2 ⟨rfl, hbw2⟩
  have z2 := hbw2.size
  try simp at z2
  have c2_0 : w2.cell? ⟨w.heap.size, 0, none⟩ = some (.int .i64 s) := by rw [(bcell hbw2).1 _ _ (by first | (simp; done) | (simp; omega) | omega)]; simp [go_sem, World.cell?_alloc_past, *]
  have c2_1 : w2.cell? ⟨w.heap.size, 1, none⟩ = some (.int .i64 d) := by rw [(bcell hbw2).1 _ _ (by first | (simp; done) | (simp; omega) | omega)]; simp [go_sem, World.cell?_alloc_past, *]
  have c2_2 : w2.cell? ⟨w.heap.size, 2, none⟩ = some (.int .i64 a) := by rw [(bcell hbw2).1 _ _ (by first | (simp; done) | (simp; omega) | omega)]; simp [go_sem, World.cell?_alloc_past, *]
  have c2_3 : w2.cell? ⟨w.heap.size, 3, none⟩ = some (.int .i64 b) := by rw [(bcell hbw2).1 _ _ (by first | (simp; done) | (simp; omega) | omega)]; simp [go_sem, World.cell?_alloc_past, *]
  have c2_4 : w2.cell? ⟨w.heap.size, 4, none⟩ = some (.int .i64 n) := by rw [(bcell hbw2).1 _ _ (by first | (simp; done) | (simp; omega) | omega)]; simp [go_sem, World.cell?_alloc_past, *]
  have c2_5 : w2.cell? ⟨w.heap.size + 1, 0, none⟩ = some (.int .i64 x) := by rw [(bcell hbw2).1 _ _ (by first | (simp; done) | (simp; omega) | omega)]; simp [go_sem, World.cell?_alloc_past, *]
  have c2_6 : w2.cell? ⟨w.heap.size + 1, 1, none⟩ = some (.int .i64 y) := by rw [(bcell hbw2).1 _ _ (by first | (simp; done) | (simp; omega) | omega)]; simp [go_sem, World.cell?_alloc_past, *]
  have hB2 : Below w.heap.size w w2 := (by (repeat (first | (with_reducible refine Below.drew ?_) | (with_reducible refine below_drewN ?_ _) | (with_reducible refine Below.alloc ?_ (by first | omega | (simp; done) | (simp; omega) | (simp at *; omega)) _) | (with_reducible refine Below.setCell ?_ (by first | omega | (simp; done) | (simp; omega) | (simp at *; omega)) _) | (with_reducible exact Below.refl _ _) | (with_reducible assumption) | (with_reducible refine Below.trans ?_ (Below.mono (by assumption) (by first | omega | (simp; done) | (simp; omega) | (simp at *; omega)))))))
  clear c1_0 c1_1 c1_2 c1_3 c1_4 c1_5 c1_6 o1_0 n1_0 t1_0_1 t1_0_2 t1_0_3 t1_0_4 t1_0_5 t1_0_6 t1_0_7 o1_1 n1_1 t1_1_1 t1_1_2 t1_1_3 t1_1_4 t1_1_5 t1_1_6 t1_1_7
  have o2_0 : w.heap.size < w2.heap.size := by omega
  have n2_0 : w2.heap.size ≠ w.heap.size := by omega
  have t2_0_1 : w.heap.size < w2.heap.size + 1 := by omega
  have t2_0_2 : w.heap.size < w2.heap.size + 1 + 1 := by omega
  have t2_0_3 : w.heap.size < w2.heap.size + 1 + 1 + 1 := by omega
  have t2_0_4 : w.heap.size < w2.heap.size + 1 + 1 + 1 + 1 := by omega
  have t2_0_5 : w.heap.size < w2.heap.size + 1 + 1 + 1 + 1 + 1 := by omega
  have t2_0_6 : w.heap.size < w2.heap.size + 1 + 1 + 1 + 1 + 1 + 1 := by omega
  have t2_0_7 : w.heap.size < w2.heap.size + 1 + 1 + 1 + 1 + 1 + 1 + 1 := by omega
  have o2_1 : w.heap.size + 1 < w2.heap.size := by omega
  have n2_1 : w2.heap.size ≠ w.heap.size + 1 := by omega
  have t2_1_1 : w.heap.size + 1 < w2.heap.size + 1 := by omega
  have t2_1_2 : w.heap.size + 1 < w2.heap.size + 1 + 1 := by omega
  have t2_1_3 : w.heap.size + 1 < w2.heap.size + 1 + 1 + 1 := by omega
  have t2_1_4 : w.heap.size + 1 < w2.heap.size + 1 + 1 + 1 + 1 := by omega
  have t2_1_5 : w.heap.size + 1 < w2.heap.size + 1 + 1 + 1 + 1 + 1 := by omega
  have t2_1_6 : w.heap.size + 1 < w2.heap.size + 1 + 1 + 1 + 1 + 1 + 1 := by omega
  have t2_1_7 : w.heap.size + 1 < w2.heap.size + 1 + 1 + 1 + 1 + 1 + 1 + 1 := by omega
  have b2 : w.heap.size ≤ w2.heap.size := by omega
  clear hbw2
  go_wp2_with ((go_at_call 20; ((with_reducible refine (refCheckGas_c _ _ c _ hg).mono ?_)); rintro e w' ⟨rfl, rfl⟩))
  go_ret
  exact ⟨rfl, (by (repeat (first | (with_reducible refine Below.drew ?_) | (with_reducible refine below_drewN ?_ _) | (with_reducible refine Below.alloc ?_ (by first | omega | (simp; done) | (simp; omega) | (simp at *; omega)) _) | (with_reducible refine Below.setCell ?_ (by first | omega | (simp; done) | (simp; omega) | (simp at *; omega)) _) | (with_reducible exact Below.refl _ _) | (with_reducible assumption) | (with_reducible refine Below.trans ?_ (Below.mono (by assumption) (by first | omega | (simp; done) | (simp; omega) | (simp at *; omega)))))))⟩
set_option maxRecDepth 100000 in
set_option maxHeartbeats 4000000 in
theorem tlaw_n0 (s d a b n x y : Int) (w : World) (m : Int) (hm : w.cell? ⟨1, 0, none⟩ = some (.int .i64 m)) (hc : Hid (aimE s d a b n = 0)) (hg : Hid (gasE x y = 0)) (k1 : 400 ≤ s) (k2 : s ≤ 1100) (k3 : 0 ≤ n) (k4 : n ≤ 30000) (k5 : 1 ≤ a) (k6 : a ≤ 4000) (k7 : 1 ≤ b) (k8 : b ≤ 4000) (k9 : 0 ≤ d) (k10 : d ≤ 30000) (g1 : 0 ≤ x) (g2 : x ≤ 1000) (g3 : 0 ≤ y) (g4 : y ≤ 1000) (hm0 : Hid (metB x y s a b n (s + d) = false)) (HM : Hid (metB (bestOx s (s + d) n b) (bestHe s (s + d) n) s a b n (s + d) = false)) :
    Calls Tryd.prog 10 #[.agg #[.int .i64 s, .int .i64 d, .int .i64 a, .int .i64 b, .int .i64 n], .agg #[.int .i64 x, .int .i64 y]] w fun e w' => e = .returned (.bool true) ∧ Below w.heap.size w w' := by
  have hl := World.block_lt_of_cell? _ _ hm
  have hne : w.heap.size ≠ 1 := by simp at hl; omega
  have hl2 : 1 < w.heap.size := by simpa using hl
  go_enter Tryd.func10, Tryd.ntmps10
  go_wp2_with fail
  refine (awake_any _ m (by exact oldCell2 (by (repeat (first | (with_reducible refine Below.drew ?_) | (with_reducible refine below_drewN ?_ _) | (with_reducible refine Below.alloc ?_ (by first | omega | (simp; done) | (simp; omega) | (simp at *; omega)) _) | (with_reducible refine Below.setCell ?_ (by first | omega | (simp; done) | (simp; omega) | (simp at *; omega)) _) | (with_reducible exact Below.refl _ _) | (with_reducible assumption) | (with_reducible refine Below.trans ?_ (Below.mono (by assumption) (by first | omega | (simp; done) | (simp; omega) | (simp at *; omega))))))) hm)).mono ?_
  rintro e w1 ⟨rfl, hbw1⟩
  have z1 := hbw1.size
  try simp at z1
  have c1_0 : w1.cell? ⟨w.heap.size, 0, none⟩ = some (.int .i64 s) := by rw [(bcell hbw1).1 _ _ (by first | (simp; done) | (simp; omega) | omega)]; simp [go_sem, World.cell?_alloc_past, *]
  have c1_1 : w1.cell? ⟨w.heap.size, 1, none⟩ = some (.int .i64 d) := by rw [(bcell hbw1).1 _ _ (by first | (simp; done) | (simp; omega) | omega)]; simp [go_sem, World.cell?_alloc_past, *]
  have c1_2 : w1.cell? ⟨w.heap.size, 2, none⟩ = some (.int .i64 a) := by rw [(bcell hbw1).1 _ _ (by first | (simp; done) | (simp; omega) | omega)]; simp [go_sem, World.cell?_alloc_past, *]
  have c1_3 : w1.cell? ⟨w.heap.size, 3, none⟩ = some (.int .i64 b) := by rw [(bcell hbw1).1 _ _ (by first | (simp; done) | (simp; omega) | omega)]; simp [go_sem, World.cell?_alloc_past, *]
  have c1_4 : w1.cell? ⟨w.heap.size, 4, none⟩ = some (.int .i64 n) := by rw [(bcell hbw1).1 _ _ (by first | (simp; done) | (simp; omega) | omega)]; simp [go_sem, World.cell?_alloc_past, *]
  have c1_5 : w1.cell? ⟨w.heap.size + 1, 0, none⟩ = some (.int .i64 x) := by rw [(bcell hbw1).1 _ _ (by first | (simp; done) | (simp; omega) | omega)]; simp [go_sem, World.cell?_alloc_past, *]
  have c1_6 : w1.cell? ⟨w.heap.size + 1, 1, none⟩ = some (.int .i64 y) := by rw [(bcell hbw1).1 _ _ (by first | (simp; done) | (simp; omega) | omega)]; simp [go_sem, World.cell?_alloc_past, *]
  have hB1 : Below w.heap.size w w1 := (by (repeat (first | (with_reducible refine Below.drew ?_) | (with_reducible refine below_drewN ?_ _) | (with_reducible refine Below.alloc ?_ (by first | omega | (simp; done) | (simp; omega) | (simp at *; omega)) _) | (with_reducible refine Below.setCell ?_ (by first | omega | (simp; done) | (simp; omega) | (simp at *; omega)) _) | (with_reducible exact Below.refl _ _) | (with_reducible assumption) | (with_reducible refine Below.trans ?_ (Below.mono (by assumption) (by first | omega | (simp; done) | (simp; omega) | (simp at *; omega)))))))
  have o1_0 : w.heap.size < w1.heap.size := by omega
  have n1_0 : w1.heap.size ≠ w.heap.size := by omega
  have t1_0_1 : w.heap.size < w1.heap.size + 1 := by omega
  have t1_0_2 : w.heap.size < w1.heap.size + 1 + 1 := by omega
  have t1_0_3 : w.heap.size < w1.heap.size + 1 + 1 + 1 := by omega
  have t1_0_4 : w.heap.size < w1.heap.size + 1 + 1 + 1 + 1 := by omega
  have t1_0_5 : w.heap.size < w1.heap.size + 1 + 1 + 1 + 1 + 1 := by omega
  have t1_0_6 : w.heap.size < w1.heap.size + 1 + 1 + 1 + 1 + 1 + 1 := by omega
  have t1_0_7 : w.heap.size < w1.heap.size + 1 + 1 + 1 + 1 + 1 + 1 + 1 := by omega
  have o1_1 : w.heap.size + 1 < w1.heap.size := by omega
  have n1_1 : w1.heap.size ≠ w.heap.size + 1 := by omega
  have t1_1_1 : w.heap.size + 1 < w1.heap.size + 1 := by omega
  have t1_1_2 : w.heap.size + 1 < w1.heap.size + 1 + 1 := by omega
  have t1_1_3 : w.heap.size + 1 < w1.heap.size + 1 + 1 + 1 := by omega
  have t1_1_4 : w.heap.size + 1 < w1.heap.size + 1 + 1 + 1 + 1 := by omega
  have t1_1_5 : w.heap.size + 1 < w1.heap.size + 1 + 1 + 1 + 1 + 1 := by omega
  have t1_1_6 : w.heap.size + 1 < w1.heap.size + 1 + 1 + 1 + 1 + 1 + 1 := by omega
  have t1_1_7 : w.heap.size + 1 < w1.heap.size + 1 + 1 + 1 + 1 + 1 + 1 + 1 := by omega
  have b1 : w.heap.size ≤ w1.heap.size := by omega
  clear hbw1
  go_wp2_with fail
  refine (refCheckAim_is _ _ _ _ _ 0 _ hc).mono ?_
  rintro e w2 ⟨rfl, hbw2⟩
  have z2 := hbw2.size
  try simp at z2
  have c2_0 : w2.cell? ⟨w.heap.size, 0, none⟩ = some (.int .i64 s) := by rw [(bcell hbw2).1 _ _ (by first | (simp; done) | (simp; omega) | omega)]; simp [go_sem, World.cell?_alloc_past, *]
  have c2_1 : w2.cell? ⟨w.heap.size, 1, none⟩ = some (.int .i64 d) := by rw [(bcell hbw2).1 _ _ (by first | (simp; done) | (simp; omega) | omega)]; simp [go_sem, World.cell?_alloc_past, *]
  have c2_2 : w2.cell? ⟨w.heap.size, 2, none⟩ = some (.int .i64 a) := by rw [(bcell hbw2).1 _ _ (by first | (simp; done) | (simp; omega) | omega)]; simp [go_sem, World.cell?_alloc_past, *]
  have c2_3 : w2.cell? ⟨w.heap.size, 3, none⟩ = some (.int .i64 b) := by rw [(bcell hbw2).1 _ _ (by first | (simp; done) | (simp; omega) | omega)]; simp [go_sem, World.cell?_alloc_past, *]
  have c2_4 : w2.cell? ⟨w.heap.size, 4, none⟩ = some (.int .i64 n) := by rw [(bcell hbw2).1 _ _ (by first | (simp; done) | (simp; omega) | omega)]; simp [go_sem, World.cell?_alloc_past, *]
  have c2_5 : w2.cell? ⟨w.heap.size + 1, 0, none⟩ = some (.int .i64 x) := by rw [(bcell hbw2).1 _ _ (by first | (simp; done) | (simp; omega) | omega)]; simp [go_sem, World.cell?_alloc_past, *]
  have c2_6 : w2.cell? ⟨w.heap.size + 1, 1, none⟩ = some (.int .i64 y) := by rw [(bcell hbw2).1 _ _ (by first | (simp; done) | (simp; omega) | omega)]; simp [go_sem, World.cell?_alloc_past, *]
  have hB2 : Below w.heap.size w w2 := (by (repeat (first | (with_reducible refine Below.drew ?_) | (with_reducible refine below_drewN ?_ _) | (with_reducible refine Below.alloc ?_ (by first | omega | (simp; done) | (simp; omega) | (simp at *; omega)) _) | (with_reducible refine Below.setCell ?_ (by first | omega | (simp; done) | (simp; omega) | (simp at *; omega)) _) | (with_reducible exact Below.refl _ _) | (with_reducible assumption) | (with_reducible refine Below.trans ?_ (Below.mono (by assumption) (by first | omega | (simp; done) | (simp; omega) | (simp at *; omega)))))))
  clear c1_0 c1_1 c1_2 c1_3 c1_4 c1_5 c1_6 o1_0 n1_0 t1_0_1 t1_0_2 t1_0_3 t1_0_4 t1_0_5 t1_0_6 t1_0_7 o1_1 n1_1 t1_1_1 t1_1_2 t1_1_3 t1_1_4 t1_1_5 t1_1_6 t1_1_7
  have o2_0 : w.heap.size < w2.heap.size := by omega
  have n2_0 : w2.heap.size ≠ w.heap.size := by omega
  have t2_0_1 : w.heap.size < w2.heap.size + 1 := by omega
  have t2_0_2 : w.heap.size < w2.heap.size + 1 + 1 := by omega
  have t2_0_3 : w.heap.size < w2.heap.size + 1 + 1 + 1 := by omega
  have t2_0_4 : w.heap.size < w2.heap.size + 1 + 1 + 1 + 1 := by omega
  have t2_0_5 : w.heap.size < w2.heap.size + 1 + 1 + 1 + 1 + 1 := by omega
  have t2_0_6 : w.heap.size < w2.heap.size + 1 + 1 + 1 + 1 + 1 + 1 := by omega
  have t2_0_7 : w.heap.size < w2.heap.size + 1 + 1 + 1 + 1 + 1 + 1 + 1 := by omega
  have o2_1 : w.heap.size + 1 < w2.heap.size := by omega
  have n2_1 : w2.heap.size ≠ w.heap.size + 1 := by omega
  have t2_1_1 : w.heap.size + 1 < w2.heap.size + 1 := by omega
  have t2_1_2 : w.heap.size + 1 < w2.heap.size + 1 + 1 := by omega
  have t2_1_3 : w.heap.size + 1 < w2.heap.size + 1 + 1 + 1 := by omega
  have t2_1_4 : w.heap.size + 1 < w2.heap.size + 1 + 1 + 1 + 1 := by omega
  have t2_1_5 : w.heap.size + 1 < w2.heap.size + 1 + 1 + 1 + 1 + 1 := by omega
  have t2_1_6 : w.heap.size + 1 < w2.heap.size + 1 + 1 + 1 + 1 + 1 + 1 := by omega
  have t2_1_7 : w.heap.size + 1 < w2.heap.size + 1 + 1 + 1 + 1 + 1 + 1 + 1 := by omega
  have b2 : w.heap.size ≤ w2.heap.size := by omega
  clear hbw2
  go_wp2_with ((go_at_call 20; ((with_reducible refine (refCheckGas_c _ _ 0 _ hg).mono ?_)); rintro e w' ⟨rfl, rfl⟩))
  refine (BestGas_n _ _ _ _ _ _ hc HM).mono ?_
  rintro e w3 ⟨rfl, hbw3⟩
  have z3 := hbw3.size
  try simp at z3
  have c3_0 : w3.cell? ⟨w.heap.size, 0, none⟩ = some (.int .i64 s) := by rw [(bcell hbw3).1 _ _ (by first | (simp; done) | (simp; omega) | omega)]; simp [go_sem, World.cell?_alloc_past, *]
  have c3_1 : w3.cell? ⟨w.heap.size, 1, none⟩ = some (.int .i64 d) := by rw [(bcell hbw3).1 _ _ (by first | (simp; done) | (simp; omega) | omega)]; simp [go_sem, World.cell?_alloc_past, *]
  have c3_2 : w3.cell? ⟨w.heap.size, 2, none⟩ = some (.int .i64 a) := by rw [(bcell hbw3).1 _ _ (by first | (simp; done) | (simp; omega) | omega)]; simp [go_sem, World.cell?_alloc_past, *]
  have c3_3 : w3.cell? ⟨w.heap.size, 3, none⟩ = some (.int .i64 b) := by rw [(bcell hbw3).1 _ _ (by first | (simp; done) | (simp; omega) | omega)]; simp [go_sem, World.cell?_alloc_past, *]
  have c3_4 : w3.cell? ⟨w.heap.size, 4, none⟩ = some (.int .i64 n) := by rw [(bcell hbw3).1 _ _ (by first | (simp; done) | (simp; omega) | omega)]; simp [go_sem, World.cell?_alloc_past, *]
  have c3_5 : w3.cell? ⟨w.heap.size + 1, 0, none⟩ = some (.int .i64 x) := by rw [(bcell hbw3).1 _ _ (by first | (simp; done) | (simp; omega) | omega)]; simp [go_sem, World.cell?_alloc_past, *]
  have c3_6 : w3.cell? ⟨w.heap.size + 1, 1, none⟩ = some (.int .i64 y) := by rw [(bcell hbw3).1 _ _ (by first | (simp; done) | (simp; omega) | omega)]; simp [go_sem, World.cell?_alloc_past, *]
  have hB3 : Below w.heap.size w w3 := (by (repeat (first | (with_reducible refine Below.drew ?_) | (with_reducible refine below_drewN ?_ _) | (with_reducible refine Below.alloc ?_ (by first | omega | (simp; done) | (simp; omega) | (simp at *; omega)) _) | (with_reducible refine Below.setCell ?_ (by first | omega | (simp; done) | (simp; omega) | (simp at *; omega)) _) | (with_reducible exact Below.refl _ _) | (with_reducible assumption) | (with_reducible refine Below.trans ?_ (Below.mono (by assumption) (by first | omega | (simp; done) | (simp; omega) | (simp at *; omega)))))))
  clear c2_0 c2_1 c2_2 c2_3 c2_4 c2_5 c2_6 o2_0 n2_0 t2_0_1 t2_0_2 t2_0_3 t2_0_4 t2_0_5 t2_0_6 t2_0_7 o2_1 n2_1 t2_1_1 t2_1_2 t2_1_3 t2_1_4 t2_1_5 t2_1_6 t2_1_7
  have o3_0 : w.heap.size < w3.heap.size := by omega
  have n3_0 : w3.heap.size ≠ w.heap.size := by omega
  have t3_0_1 : w.heap.size < w3.heap.size + 1 := by omega
  have t3_0_2 : w.heap.size < w3.heap.size + 1 + 1 := by omega
  have t3_0_3 : w.heap.size < w3.heap.size + 1 + 1 + 1 := by omega
  have t3_0_4 : w.heap.size < w3.heap.size + 1 + 1 + 1 + 1 := by omega
  have t3_0_5 : w.heap.size < w3.heap.size + 1 + 1 + 1 + 1 + 1 := by omega
  have t3_0_6 : w.heap.size < w3.heap.size + 1 + 1 + 1 + 1 + 1 + 1 := by omega
  have t3_0_7 : w.heap.size < w3.heap.size + 1 + 1 + 1 + 1 + 1 + 1 + 1 := by omega
  have o3_1 : w.heap.size + 1 < w3.heap.size := by omega
  have n3_1 : w3.heap.size ≠ w.heap.size + 1 := by omega
  have t3_1_1 : w.heap.size + 1 < w3.heap.size + 1 := by omega
  have t3_1_2 : w.heap.size + 1 < w3.heap.size + 1 + 1 := by omega
  have t3_1_3 : w.heap.size + 1 < w3.heap.size + 1 + 1 + 1 := by omega
  have t3_1_4 : w.heap.size + 1 < w3.heap.size + 1 + 1 + 1 + 1 := by omega
  have t3_1_5 : w.heap.size + 1 < w3.heap.size + 1 + 1 + 1 + 1 + 1 := by omega
  have t3_1_6 : w.heap.size + 1 < w3.heap.size + 1 + 1 + 1 + 1 + 1 + 1 := by omega
  have t3_1_7 : w.heap.size + 1 < w3.heap.size + 1 + 1 + 1 + 1 + 1 + 1 + 1 := by omega
  have o3_2 : w2.heap.size < w3.heap.size := by omega
  have n3_2 : w3.heap.size ≠ w2.heap.size := by omega
  have t3_2_1 : w2.heap.size < w3.heap.size + 1 := by omega
  have t3_2_2 : w2.heap.size < w3.heap.size + 1 + 1 := by omega
  have t3_2_3 : w2.heap.size < w3.heap.size + 1 + 1 + 1 := by omega
  have t3_2_4 : w2.heap.size < w3.heap.size + 1 + 1 + 1 + 1 := by omega
  have t3_2_5 : w2.heap.size < w3.heap.size + 1 + 1 + 1 + 1 + 1 := by omega
  have t3_2_6 : w2.heap.size < w3.heap.size + 1 + 1 + 1 + 1 + 1 + 1 := by omega
  have t3_2_7 : w2.heap.size < w3.heap.size + 1 + 1 + 1 + 1 + 1 + 1 + 1 := by omega
  have b3 : w.heap.size ≤ w3.heap.size := by omega
  clear hbw3
  go_wp2_with fail
  refine (Rich1 x y s d a b n false _ _ (by simp [go_sem]) (by simp [go_sem]) hg hc hm0).mono ?_
  rintro e w4 ⟨rfl, hbw4⟩
  have z4 := hbw4.size
  try simp at z4
  have c4_0 : w4.cell? ⟨w.heap.size, 0, none⟩ = some (.int .i64 s) := by rw [(bcell hbw4).1 _ _ (by first | (simp; done) | (simp; omega) | omega)]; simp [go_sem, World.cell?_alloc_past, *]
  have c4_1 : w4.cell? ⟨w.heap.size, 1, none⟩ = some (.int .i64 d) := by rw [(bcell hbw4).1 _ _ (by first | (simp; done) | (simp; omega) | omega)]; simp [go_sem, World.cell?_alloc_past, *]
  have c4_2 : w4.cell? ⟨w.heap.size, 2, none⟩ = some (.int .i64 a) := by rw [(bcell hbw4).1 _ _ (by first | (simp; done) | (simp; omega) | omega)]; simp [go_sem, World.cell?_alloc_past, *]
  have c4_3 : w4.cell? ⟨w.heap.size, 3, none⟩ = some (.int .i64 b) := by rw [(bcell hbw4).1 _ _ (by first | (simp; done) | (simp; omega) | omega)]; simp [go_sem, World.cell?_alloc_past, *]
  have c4_4 : w4.cell? ⟨w.heap.size, 4, none⟩ = some (.int .i64 n) := by rw [(bcell hbw4).1 _ _ (by first | (simp; done) | (simp; omega) | omega)]; simp [go_sem, World.cell?_alloc_past, *]
  have c4_5 : w4.cell? ⟨w.heap.size + 1, 0, none⟩ = some (.int .i64 x) := by rw [(bcell hbw4).1 _ _ (by first | (simp; done) | (simp; omega) | omega)]; simp [go_sem, World.cell?_alloc_past, *]
  have c4_6 : w4.cell? ⟨w.heap.size + 1, 1, none⟩ = some (.int .i64 y) := by rw [(bcell hbw4).1 _ _ (by first | (simp; done) | (simp; omega) | omega)]; simp [go_sem, World.cell?_alloc_past, *]
  have c4_7 : w4.cell? ⟨w3.heap.size, 0, none⟩ = some (.int .i64 0) := by rw [(bcell hbw4).1 _ _ (by first | (simp; done) | (simp; omega) | omega)]; simp [go_sem, World.cell?_alloc_past, *]
  have c4_8 : w4.cell? ⟨w3.heap.size, 1, none⟩ = some (.int .i64 0) := by rw [(bcell hbw4).1 _ _ (by first | (simp; done) | (simp; omega) | omega)]; simp [go_sem, World.cell?_alloc_past, *]
  have c4_9 : w4.cell? ⟨w3.heap.size + 1, 0, none⟩ = some (.int .i64 x) := by rw [(bcell hbw4).1 _ _ (by first | (simp; done) | (simp; omega) | omega)]; simp [go_sem, World.cell?_alloc_past, *]
  have c4_10 : w4.cell? ⟨w3.heap.size + 1, 1, none⟩ = some (.int .i64 y) := by rw [(bcell hbw4).1 _ _ (by first | (simp; done) | (simp; omega) | omega)]; simp [go_sem, World.cell?_alloc_past, *]
  have hB4 : Below w.heap.size w w4 := (by (repeat (first | (with_reducible refine Below.drew ?_) | (with_reducible refine below_drewN ?_ _) | (with_reducible refine Below.alloc ?_ (by first | omega | (simp; done) | (simp; omega) | (simp at *; omega)) _) | (with_reducible refine Below.setCell ?_ (by first | omega | (simp; done) | (simp; omega) | (simp at *; omega)) _) | (with_reducible exact Below.refl _ _) | (with_reducible assumption) | (with_reducible refine Below.trans ?_ (Below.mono (by assumption) (by first | omega | (simp; done) | (simp; omega) | (simp at *; omega)))))))
  clear c3_0 c3_1 c3_2 c3_3 c3_4 c3_5 c3_6 o3_0 n3_0 t3_0_1 t3_0_2 t3_0_3 t3_0_4 t3_0_5 t3_0_6 t3_0_7 o3_1 n3_1 t3_1_1 t3_1_2 t3_1_3 t3_1_4 t3_1_5 t3_1_6 t3_1_7 o3_2 n3_2 t3_2_1 t3_2_2 t3_2_3 t3_2_4 t3_2_5 t3_2_6 t3_2_7
  have o4_0 : w.heap.size < w4.heap.size := by omega
  have n4_0 : w4.heap.size ≠ w.heap.size := by omega
  have t4_0_1 : w.heap.size < w4.heap.size + 1 := by omega
  have t4_0_2 : w.heap.size < w4.heap.size + 1 + 1 := by omega
  have t4_0_3 : w.heap.size < w4.heap.size + 1 + 1 + 1 := by omega
  have t4_0_4 : w.heap.size < w4.heap.size + 1 + 1 + 1 + 1 := by omega
  have t4_0_5 : w.heap.size < w4.heap.size + 1 + 1 + 1 + 1 + 1 := by omega
  have t4_0_6 : w.heap.size < w4.heap.size + 1 + 1 + 1 + 1 + 1 + 1 := by omega
  have t4_0_7 : w.heap.size < w4.heap.size + 1 + 1 + 1 + 1 + 1 + 1 + 1 := by omega
  have o4_1 : w.heap.size + 1 < w4.heap.size := by omega
  have n4_1 : w4.heap.size ≠ w.heap.size + 1 := by omega
  have t4_1_1 : w.heap.size + 1 < w4.heap.size + 1 := by omega
  have t4_1_2 : w.heap.size + 1 < w4.heap.size + 1 + 1 := by omega
  have t4_1_3 : w.heap.size + 1 < w4.heap.size + 1 + 1 + 1 := by omega
  have t4_1_4 : w.heap.size + 1 < w4.heap.size + 1 + 1 + 1 + 1 := by omega
  have t4_1_5 : w.heap.size + 1 < w4.heap.size + 1 + 1 + 1 + 1 + 1 := by omega
  have t4_1_6 : w.heap.size + 1 < w4.heap.size + 1 + 1 + 1 + 1 + 1 + 1 := by omega
  have t4_1_7 : w.heap.size + 1 < w4.heap.size + 1 + 1 + 1 + 1 + 1 + 1 + 1 := by omega
  have o4_2 : w2.heap.size < w4.heap.size := by omega
  have n4_2 : w4.heap.size ≠ w2.heap.size := by omega
  have t4_2_1 : w2.heap.size < w4.heap.size + 1 := by omega
  have t4_2_2 : w2.heap.size < w4.heap.size + 1 + 1 := by omega
  have t4_2_3 : w2.heap.size < w4.heap.size + 1 + 1 + 1 := by omega
  have t4_2_4 : w2.heap.size < w4.heap.size + 1 + 1 + 1 + 1 := by omega
  have t4_2_5 : w2.heap.size < w4.heap.size + 1 + 1 + 1 + 1 + 1 := by omega
  have t4_2_6 : w2.heap.size < w4.heap.size + 1 + 1 + 1 + 1 + 1 + 1 := by omega
  have t4_2_7 : w2.heap.size < w4.heap.size + 1 + 1 + 1 + 1 + 1 + 1 + 1 := by omega
  have o4_3 : w3.heap.size < w4.heap.size := by omega
  have n4_3 : w4.heap.size ≠ w3.heap.size := by omega
  have t4_3_1 : w3.heap.size < w4.heap.size + 1 := by omega
  have t4_3_2 : w3.heap.size < w4.heap.size + 1 + 1 := by omega
  have t4_3_3 : w3.heap.size < w4.heap.size + 1 + 1 + 1 := by omega
  have t4_3_4 : w3.heap.size < w4.heap.size + 1 + 1 + 1 + 1 := by omega
  have t4_3_5 : w3.heap.size < w4.heap.size + 1 + 1 + 1 + 1 + 1 := by omega
  have t4_3_6 : w3.heap.size < w4.heap.size + 1 + 1 + 1 + 1 + 1 + 1 := by omega
  have t4_3_7 : w3.heap.size < w4.heap.size + 1 + 1 + 1 + 1 + 1 + 1 + 1 := by omega
  have o4_4 : w3.heap.size + 1 < w4.heap.size := by omega
  have n4_4 : w4.heap.size ≠ w3.heap.size + 1 := by omega
  have t4_4_1 : w3.heap.size + 1 < w4.heap.size + 1 := by omega
  have t4_4_2 : w3.heap.size + 1 < w4.heap.size + 1 + 1 := by omega
  have t4_4_3 : w3.heap.size + 1 < w4.heap.size + 1 + 1 + 1 := by omega
  have t4_4_4 : w3.heap.size + 1 < w4.heap.size + 1 + 1 + 1 + 1 := by omega
  have t4_4_5 : w3.heap.size + 1 < w4.heap.size + 1 + 1 + 1 + 1 + 1 := by omega
  have t4_4_6 : w3.heap.size + 1 < w4.heap.size + 1 + 1 + 1 + 1 + 1 + 1 := by omega
  have t4_4_7 : w3.heap.size + 1 < w4.heap.size + 1 + 1 + 1 + 1 + 1 + 1 + 1 := by omega
  have b4 : w.heap.size ≤ w4.heap.size := by omega
  clear hbw4
  go_wp2_with fail
  refine (Meets_b x y s d a b n false _ k1 k2 k3 k4 k5 k6 k7 k8 g1 g2 g3 g4 k9 k10 hm0).mono ?_
  rintro e w5 ⟨rfl, hbw5⟩
  have z5 := hbw5.size
  try simp at z5
  have c5_0 : w5.cell? ⟨w.heap.size, 0, none⟩ = some (.int .i64 s) := by rw [(bcell hbw5).1 _ _ (by first | (simp; done) | (simp; omega) | omega)]; simp [go_sem, World.cell?_alloc_past, *]
  have c5_1 : w5.cell? ⟨w.heap.size, 1, none⟩ = some (.int .i64 d) := by rw [(bcell hbw5).1 _ _ (by first | (simp; done) | (simp; omega) | omega)]; simp [go_sem, World.cell?_alloc_past, *]
  have c5_2 : w5.cell? ⟨w.heap.size, 2, none⟩ = some (.int .i64 a) := by rw [(bcell hbw5).1 _ _ (by first | (simp; done) | (simp; omega) | omega)]; simp [go_sem, World.cell?_alloc_past, *]
  have c5_3 : w5.cell? ⟨w.heap.size, 3, none⟩ = some (.int .i64 b) := by rw [(bcell hbw5).1 _ _ (by first | (simp; done) | (simp; omega) | omega)]; simp [go_sem, World.cell?_alloc_past, *]
  have c5_4 : w5.cell? ⟨w.heap.size, 4, none⟩ = some (.int .i64 n) := by rw [(bcell hbw5).1 _ _ (by first | (simp; done) | (simp; omega) | omega)]; simp [go_sem, World.cell?_alloc_past, *]
  have c5_5 : w5.cell? ⟨w.heap.size + 1, 0, none⟩ = some (.int .i64 x) := by rw [(bcell hbw5).1 _ _ (by first | (simp; done) | (simp; omega) | omega)]; simp [go_sem, World.cell?_alloc_past, *]
  have c5_6 : w5.cell? ⟨w.heap.size + 1, 1, none⟩ = some (.int .i64 y) := by rw [(bcell hbw5).1 _ _ (by first | (simp; done) | (simp; omega) | omega)]; simp [go_sem, World.cell?_alloc_past, *]
  have c5_7 : w5.cell? ⟨w3.heap.size, 0, none⟩ = some (.int .i64 0) := by rw [(bcell hbw5).1 _ _ (by first | (simp; done) | (simp; omega) | omega)]; simp [go_sem, World.cell?_alloc_past, *]
  have c5_8 : w5.cell? ⟨w3.heap.size, 1, none⟩ = some (.int .i64 0) := by rw [(bcell hbw5).1 _ _ (by first | (simp; done) | (simp; omega) | omega)]; simp [go_sem, World.cell?_alloc_past, *]
  have c5_9 : w5.cell? ⟨w3.heap.size + 1, 0, none⟩ = some (.int .i64 x) := by rw [(bcell hbw5).1 _ _ (by first | (simp; done) | (simp; omega) | omega)]; simp [go_sem, World.cell?_alloc_past, *]
  have c5_10 : w5.cell? ⟨w3.heap.size + 1, 1, none⟩ = some (.int .i64 y) := by rw [(bcell hbw5).1 _ _ (by first | (simp; done) | (simp; omega) | omega)]; simp [go_sem, World.cell?_alloc_past, *]
  have hB5 : Below w.heap.size w w5 := (by (repeat (first | (with_reducible refine Below.drew ?_) | (with_reducible refine below_drewN ?_ _) | (with_reducible refine Below.alloc ?_ (by first | omega | (simp; done) | (simp; omega) | (simp at *; omega)) _) | (with_reducible refine Below.setCell ?_ (by first | omega | (simp; done) | (simp; omega) | (simp at *; omega)) _) | (with_reducible exact Below.refl _ _) | (with_reducible assumption) | (with_reducible refine Below.trans ?_ (Below.mono (by assumption) (by first | omega | (simp; done) | (simp; omega) | (simp at *; omega)))))))
  clear c4_0 c4_1 c4_2 c4_3 c4_4 c4_5 c4_6 c4_7 c4_8 c4_9 c4_10 o4_0 n4_0 t4_0_1 t4_0_2 t4_0_3 t4_0_4 t4_0_5 t4_0_6 t4_0_7 o4_1 n4_1 t4_1_1 t4_1_2 t4_1_3 t4_1_4 t4_1_5 t4_1_6 t4_1_7 o4_2 n4_2 t4_2_1 t4_2_2 t4_2_3 t4_2_4 t4_2_5 t4_2_6 t4_2_7 o4_3 n4_3 t4_3_1 t4_3_2 t4_3_3 t4_3_4 t4_3_5 t4_3_6 t4_3_7 o4_4 n4_4 t4_4_1 t4_4_2 t4_4_3 t4_4_4 t4_4_5 t4_4_6 t4_4_7
  have o5_0 : w.heap.size < w5.heap.size := by omega
  have n5_0 : w5.heap.size ≠ w.heap.size := by omega
  have t5_0_1 : w.heap.size < w5.heap.size + 1 := by omega
  have t5_0_2 : w.heap.size < w5.heap.size + 1 + 1 := by omega
  have t5_0_3 : w.heap.size < w5.heap.size + 1 + 1 + 1 := by omega
  have t5_0_4 : w.heap.size < w5.heap.size + 1 + 1 + 1 + 1 := by omega
  have t5_0_5 : w.heap.size < w5.heap.size + 1 + 1 + 1 + 1 + 1 := by omega
  have t5_0_6 : w.heap.size < w5.heap.size + 1 + 1 + 1 + 1 + 1 + 1 := by omega
  have t5_0_7 : w.heap.size < w5.heap.size + 1 + 1 + 1 + 1 + 1 + 1 + 1 := by omega
  have o5_1 : w.heap.size + 1 < w5.heap.size := by omega
  have n5_1 : w5.heap.size ≠ w.heap.size + 1 := by omega
  have t5_1_1 : w.heap.size + 1 < w5.heap.size + 1 := by omega
  have t5_1_2 : w.heap.size + 1 < w5.heap.size + 1 + 1 := by omega
  have t5_1_3 : w.heap.size + 1 < w5.heap.size + 1 + 1 + 1 := by omega
  have t5_1_4 : w.heap.size + 1 < w5.heap.size + 1 + 1 + 1 + 1 := by omega
  have t5_1_5 : w.heap.size + 1 < w5.heap.size + 1 + 1 + 1 + 1 + 1 := by omega
  have t5_1_6 : w.heap.size + 1 < w5.heap.size + 1 + 1 + 1 + 1 + 1 + 1 := by omega
  have t5_1_7 : w.heap.size + 1 < w5.heap.size + 1 + 1 + 1 + 1 + 1 + 1 + 1 := by omega
  have o5_2 : w2.heap.size < w5.heap.size := by omega
  have n5_2 : w5.heap.size ≠ w2.heap.size := by omega
  have t5_2_1 : w2.heap.size < w5.heap.size + 1 := by omega
  have t5_2_2 : w2.heap.size < w5.heap.size + 1 + 1 := by omega
  have t5_2_3 : w2.heap.size < w5.heap.size + 1 + 1 + 1 := by omega
  have t5_2_4 : w2.heap.size < w5.heap.size + 1 + 1 + 1 + 1 := by omega
  have t5_2_5 : w2.heap.size < w5.heap.size + 1 + 1 + 1 + 1 + 1 := by omega
  have t5_2_6 : w2.heap.size < w5.heap.size + 1 + 1 + 1 + 1 + 1 + 1 := by omega
  have t5_2_7 : w2.heap.size < w5.heap.size + 1 + 1 + 1 + 1 + 1 + 1 + 1 := by omega
  have o5_3 : w3.heap.size < w5.heap.size := by omega
  have n5_3 : w5.heap.size ≠ w3.heap.size := by omega
  have t5_3_1 : w3.heap.size < w5.heap.size + 1 := by omega
  have t5_3_2 : w3.heap.size < w5.heap.size + 1 + 1 := by omega
  have t5_3_3 : w3.heap.size < w5.heap.size + 1 + 1 + 1 := by omega
  have t5_3_4 : w3.heap.size < w5.heap.size + 1 + 1 + 1 + 1 := by omega
  have t5_3_5 : w3.heap.size < w5.heap.size + 1 + 1 + 1 + 1 + 1 := by omega
  have t5_3_6 : w3.heap.size < w5.heap.size + 1 + 1 + 1 + 1 + 1 + 1 := by omega
  have t5_3_7 : w3.heap.size < w5.heap.size + 1 + 1 + 1 + 1 + 1 + 1 + 1 := by omega
  have o5_4 : w3.heap.size + 1 < w5.heap.size := by omega
  have n5_4 : w5.heap.size ≠ w3.heap.size + 1 := by omega
  have t5_4_1 : w3.heap.size + 1 < w5.heap.size + 1 := by omega
  have t5_4_2 : w3.heap.size + 1 < w5.heap.size + 1 + 1 := by omega
  have t5_4_3 : w3.heap.size + 1 < w5.heap.size + 1 + 1 + 1 := by omega
  have t5_4_4 : w3.heap.size + 1 < w5.heap.size + 1 + 1 + 1 + 1 := by omega
  have t5_4_5 : w3.heap.size + 1 < w5.heap.size + 1 + 1 + 1 + 1 + 1 := by omega
  have t5_4_6 : w3.heap.size + 1 < w5.heap.size + 1 + 1 + 1 + 1 + 1 + 1 := by omega
  have t5_4_7 : w3.heap.size + 1 < w5.heap.size + 1 + 1 + 1 + 1 + 1 + 1 + 1 := by omega
  have b5 : w.heap.size ≤ w5.heap.size := by omega
  clear hbw5
  go_wp2
  go_ret
  exact ⟨rfl, (by (repeat (first | (with_reducible refine Below.drew ?_) | (with_reducible refine below_drewN ?_ _) | (with_reducible refine Below.alloc ?_ (by first | omega | (simp; done) | (simp; omega) | (simp at *; omega)) _) | (with_reducible refine Below.setCell ?_ (by first | omega | (simp; done) | (simp; omega) | (simp at *; omega)) _) | (with_reducible exact Below.refl _ _) | (with_reducible assumption) | (with_reducible refine Below.trans ?_ (Below.mono (by assumption) (by first | omega | (simp; done) | (simp; omega) | (simp at *; omega)))))))⟩
set_option maxRecDepth 100000 in
set_option maxHeartbeats 4000000 in
theorem tlaw_n1 (s d a b n x y : Int) (w : World) (m : Int) (hm : w.cell? ⟨1, 0, none⟩ = some (.int .i64 m)) (hc : Hid (aimE s d a b n = 0)) (hg : Hid (gasE x y = 0)) (k1 : 400 ≤ s) (k2 : s ≤ 1100) (k3 : 0 ≤ n) (k4 : n ≤ 30000) (k5 : 1 ≤ a) (k6 : a ≤ 4000) (k7 : 1 ≤ b) (k8 : b ≤ 4000) (k9 : 0 ≤ d) (k10 : d ≤ 30000) (g1 : 0 ≤ x) (g2 : x ≤ 1000) (g3 : 0 ≤ y) (g4 : y ≤ 1000) (hm0 : Hid (metB x y s a b n (s + d) = false)) (X Y : Int) (HM : Hid (metB (bestOx s (s + d) n b) (bestHe s (s + d) n) s a b n (s + d) = true)) (hx : Hid ((if true = true then bestOx s (s + d) n b else 0) = X)) (hy : Hid ((if true = true then bestHe s (s + d) n else 0) = Y)) :
    Calls Tryd.prog 10 #[.agg #[.int .i64 s, .int .i64 d, .int .i64 a, .int .i64 b, .int .i64 n], .agg #[.int .i64 x, .int .i64 y]] w fun e w' => e = .returned (.bool true) ∧ Below w.heap.size w w' := by
  have hl := World.block_lt_of_cell? _ _ hm
  have hne : w.heap.size ≠ 1 := by simp at hl; omega
  have hl2 : 1 < w.heap.size := by simpa using hl
  go_enter Tryd.func10, Tryd.ntmps10
  go_wp2_with fail
  refine (awake_any _ m (by exact oldCell2 (by (repeat (first | (with_reducible refine Below.drew ?_) | (with_reducible refine below_drewN ?_ _) | (with_reducible refine Below.alloc ?_ (by first | omega | (simp; done) | (simp; omega) | (simp at *; omega)) _) | (with_reducible refine Below.setCell ?_ (by first | omega | (simp; done) | (simp; omega) | (simp at *; omega)) _) | (with_reducible exact Below.refl _ _) | (with_reducible assumption) | (with_reducible refine Below.trans ?_ (Below.mono (by assumption) (by first | omega | (simp; done) | (simp; omega) | (simp at *; omega))))))) hm)).mono ?_
  rintro e w1 ⟨rfl, hbw1⟩
  have z1 := hbw1.size
  try simp at z1
  have c1_0 : w1.cell? ⟨w.heap.size, 0, none⟩ = some (.int .i64 s) := by rw [(bcell hbw1).1 _ _ (by first | (simp; done) | (simp; omega) | omega)]; simp [go_sem, World.cell?_alloc_past, *]
  have c1_1 : w1.cell? ⟨w.heap.size, 1, none⟩ = some (.int .i64 d) := by rw [(bcell hbw1).1 _ _ (by first | (simp; done) | (simp; omega) | omega)]; simp [go_sem, World.cell?_alloc_past, *]
  have c1_2 : w1.cell? ⟨w.heap.size, 2, none⟩ = some (.int .i64 a) := by rw [(bcell hbw1).1 _ _ (by first | (simp; done) | (simp; omega) | omega)]; simp [go_sem, World.cell?_alloc_past, *]
  have c1_3 : w1.cell? ⟨w.heap.size, 3, none⟩ = some (.int .i64 b) := by rw [(bcell hbw1).1 _ _ (by first | (simp; done) | (simp; omega) | omega)]; simp [go_sem, World.cell?_alloc_past, *]
  have c1_4 : w1.cell? ⟨w.heap.size, 4, none⟩ = some (.int .i64 n) := by rw [(bcell hbw1).1 _ _ (by first | (simp; done) | (simp; omega) | omega)]; simp [go_sem, World.cell?_alloc_past, *]
  have c1_5 : w1.cell? ⟨w.heap.size + 1, 0, none⟩ = some (.int .i64 x) := by rw [(bcell hbw1).1 _ _ (by first | (simp; done) | (simp; omega) | omega)]; simp [go_sem, World.cell?_alloc_past, *]
  have c1_6 : w1.cell? ⟨w.heap.size + 1, 1, none⟩ = some (.int .i64 y) := by rw [(bcell hbw1).1 _ _ (by first | (simp; done) | (simp; omega) | omega)]; simp [go_sem, World.cell?_alloc_past, *]
  have hB1 : Below w.heap.size w w1 := (by (repeat (first | (with_reducible refine Below.drew ?_) | (with_reducible refine below_drewN ?_ _) | (with_reducible refine Below.alloc ?_ (by first | omega | (simp; done) | (simp; omega) | (simp at *; omega)) _) | (with_reducible refine Below.setCell ?_ (by first | omega | (simp; done) | (simp; omega) | (simp at *; omega)) _) | (with_reducible exact Below.refl _ _) | (with_reducible assumption) | (with_reducible refine Below.trans ?_ (Below.mono (by assumption) (by first | omega | (simp; done) | (simp; omega) | (simp at *; omega)))))))
  have o1_0 : w.heap.size < w1.heap.size := by omega
  have n1_0 : w1.heap.size ≠ w.heap.size := by omega
  have t1_0_1 : w.heap.size < w1.heap.size + 1 := by omega
  have t1_0_2 : w.heap.size < w1.heap.size + 1 + 1 := by omega
  have t1_0_3 : w.heap.size < w1.heap.size + 1 + 1 + 1 := by omega
  have t1_0_4 : w.heap.size < w1.heap.size + 1 + 1 + 1 + 1 := by omega
  have t1_0_5 : w.heap.size < w1.heap.size + 1 + 1 + 1 + 1 + 1 := by omega
  have t1_0_6 : w.heap.size < w1.heap.size + 1 + 1 + 1 + 1 + 1 + 1 := by omega
  have t1_0_7 : w.heap.size < w1.heap.size + 1 + 1 + 1 + 1 + 1 + 1 + 1 := by omega
  have o1_1 : w.heap.size + 1 < w1.heap.size := by omega
  have n1_1 : w1.heap.size ≠ w.heap.size + 1 := by omega
  have t1_1_1 : w.heap.size + 1 < w1.heap.size + 1 := by omega
  have t1_1_2 : w.heap.size + 1 < w1.heap.size + 1 + 1 := by omega
  have t1_1_3 : w.heap.size + 1 < w1.heap.size + 1 + 1 + 1 := by omega
  have t1_1_4 : w.heap.size + 1 < w1.heap.size + 1 + 1 + 1 + 1 := by omega
  have t1_1_5 : w.heap.size + 1 < w1.heap.size + 1 + 1 + 1 + 1 + 1 := by omega
  have t1_1_6 : w.heap.size + 1 < w1.heap.size + 1 + 1 + 1 + 1 + 1 + 1 := by omega
  have t1_1_7 : w.heap.size + 1 < w1.heap.size + 1 + 1 + 1 + 1 + 1 + 1 + 1 := by omega
  have b1 : w.heap.size ≤ w1.heap.size := by omega
  clear hbw1
  go_wp2_with fail
  refine (refCheckAim_is _ _ _ _ _ 0 _ hc).mono ?_
  rintro e w2 ⟨rfl, hbw2⟩
  have z2 := hbw2.size
  try simp at z2
  have c2_0 : w2.cell? ⟨w.heap.size, 0, none⟩ = some (.int .i64 s) := by rw [(bcell hbw2).1 _ _ (by first | (simp; done) | (simp; omega) | omega)]; simp [go_sem, World.cell?_alloc_past, *]
  have c2_1 : w2.cell? ⟨w.heap.size, 1, none⟩ = some (.int .i64 d) := by rw [(bcell hbw2).1 _ _ (by first | (simp; done) | (simp; omega) | omega)]; simp [go_sem, World.cell?_alloc_past, *]
  have c2_2 : w2.cell? ⟨w.heap.size, 2, none⟩ = some (.int .i64 a) := by rw [(bcell hbw2).1 _ _ (by first | (simp; done) | (simp; omega) | omega)]; simp [go_sem, World.cell?_alloc_past, *]
  have c2_3 : w2.cell? ⟨w.heap.size, 3, none⟩ = some (.int .i64 b) := by rw [(bcell hbw2).1 _ _ (by first | (simp; done) | (simp; omega) | omega)]; simp [go_sem, World.cell?_alloc_past, *]
  have c2_4 : w2.cell? ⟨w.heap.size, 4, none⟩ = some (.int .i64 n) := by rw [(bcell hbw2).1 _ _ (by first | (simp; done) | (simp; omega) | omega)]; simp [go_sem, World.cell?_alloc_past, *]
  have c2_5 : w2.cell? ⟨w.heap.size + 1, 0, none⟩ = some (.int .i64 x) := by rw [(bcell hbw2).1 _ _ (by first | (simp; done) | (simp; omega) | omega)]; simp [go_sem, World.cell?_alloc_past, *]
  have c2_6 : w2.cell? ⟨w.heap.size + 1, 1, none⟩ = some (.int .i64 y) := by rw [(bcell hbw2).1 _ _ (by first | (simp; done) | (simp; omega) | omega)]; simp [go_sem, World.cell?_alloc_past, *]
  have hB2 : Below w.heap.size w w2 := (by (repeat (first | (with_reducible refine Below.drew ?_) | (with_reducible refine below_drewN ?_ _) | (with_reducible refine Below.alloc ?_ (by first | omega | (simp; done) | (simp; omega) | (simp at *; omega)) _) | (with_reducible refine Below.setCell ?_ (by first | omega | (simp; done) | (simp; omega) | (simp at *; omega)) _) | (with_reducible exact Below.refl _ _) | (with_reducible assumption) | (with_reducible refine Below.trans ?_ (Below.mono (by assumption) (by first | omega | (simp; done) | (simp; omega) | (simp at *; omega)))))))
  clear c1_0 c1_1 c1_2 c1_3 c1_4 c1_5 c1_6 o1_0 n1_0 t1_0_1 t1_0_2 t1_0_3 t1_0_4 t1_0_5 t1_0_6 t1_0_7 o1_1 n1_1 t1_1_1 t1_1_2 t1_1_3 t1_1_4 t1_1_5 t1_1_6 t1_1_7
  have o2_0 : w.heap.size < w2.heap.size := by omega
  have n2_0 : w2.heap.size ≠ w.heap.size := by omega
  have t2_0_1 : w.heap.size < w2.heap.size + 1 := by omega
  have t2_0_2 : w.heap.size < w2.heap.size + 1 + 1 := by omega
  have t2_0_3 : w.heap.size < w2.heap.size + 1 + 1 + 1 := by omega
  have t2_0_4 : w.heap.size < w2.heap.size + 1 + 1 + 1 + 1 := by omega
  have t2_0_5 : w.heap.size < w2.heap.size + 1 + 1 + 1 + 1 + 1 := by omega
  have t2_0_6 : w.heap.size < w2.heap.size + 1 + 1 + 1 + 1 + 1 + 1 := by omega
  have t2_0_7 : w.heap.size < w2.heap.size + 1 + 1 + 1 + 1 + 1 + 1 + 1 := by omega
  have o2_1 : w.heap.size + 1 < w2.heap.size := by omega
  have n2_1 : w2.heap.size ≠ w.heap.size + 1 := by omega
  have t2_1_1 : w.heap.size + 1 < w2.heap.size + 1 := by omega
  have t2_1_2 : w.heap.size + 1 < w2.heap.size + 1 + 1 := by omega
  have t2_1_3 : w.heap.size + 1 < w2.heap.size + 1 + 1 + 1 := by omega
  have t2_1_4 : w.heap.size + 1 < w2.heap.size + 1 + 1 + 1 + 1 := by omega
  have t2_1_5 : w.heap.size + 1 < w2.heap.size + 1 + 1 + 1 + 1 + 1 := by omega
  have t2_1_6 : w.heap.size + 1 < w2.heap.size + 1 + 1 + 1 + 1 + 1 + 1 := by omega
  have t2_1_7 : w.heap.size + 1 < w2.heap.size + 1 + 1 + 1 + 1 + 1 + 1 + 1 := by omega
  have b2 : w.heap.size ≤ w2.heap.size := by omega
  clear hbw2
  go_wp2_with ((go_at_call 20; ((with_reducible refine (refCheckGas_c _ _ 0 _ hg).mono ?_)); rintro e w' ⟨rfl, rfl⟩))
  refine (BestGas_m _ _ _ _ _ X Y _ hc true HM hx hy).mono ?_
  rintro e w3 ⟨rfl, hbw3⟩
  have z3 := hbw3.size
  try simp at z3
  have c3_0 : w3.cell? ⟨w.heap.size, 0, none⟩ = some (.int .i64 s) := by rw [(bcell hbw3).1 _ _ (by first | (simp; done) | (simp; omega) | omega)]; simp [go_sem, World.cell?_alloc_past, *]
  have c3_1 : w3.cell? ⟨w.heap.size, 1, none⟩ = some (.int .i64 d) := by rw [(bcell hbw3).1 _ _ (by first | (simp; done) | (simp; omega) | omega)]; simp [go_sem, World.cell?_alloc_past, *]
  have c3_2 : w3.cell? ⟨w.heap.size, 2, none⟩ = some (.int .i64 a) := by rw [(bcell hbw3).1 _ _ (by first | (simp; done) | (simp; omega) | omega)]; simp [go_sem, World.cell?_alloc_past, *]
  have c3_3 : w3.cell? ⟨w.heap.size, 3, none⟩ = some (.int .i64 b) := by rw [(bcell hbw3).1 _ _ (by first | (simp; done) | (simp; omega) | omega)]; simp [go_sem, World.cell?_alloc_past, *]
  have c3_4 : w3.cell? ⟨w.heap.size, 4, none⟩ = some (.int .i64 n) := by rw [(bcell hbw3).1 _ _ (by first | (simp; done) | (simp; omega) | omega)]; simp [go_sem, World.cell?_alloc_past, *]
  have c3_5 : w3.cell? ⟨w.heap.size + 1, 0, none⟩ = some (.int .i64 x) := by rw [(bcell hbw3).1 _ _ (by first | (simp; done) | (simp; omega) | omega)]; simp [go_sem, World.cell?_alloc_past, *]
  have c3_6 : w3.cell? ⟨w.heap.size + 1, 1, none⟩ = some (.int .i64 y) := by rw [(bcell hbw3).1 _ _ (by first | (simp; done) | (simp; omega) | omega)]; simp [go_sem, World.cell?_alloc_past, *]
  have hB3 : Below w.heap.size w w3 := (by (repeat (first | (with_reducible refine Below.drew ?_) | (with_reducible refine below_drewN ?_ _) | (with_reducible refine Below.alloc ?_ (by first | omega | (simp; done) | (simp; omega) | (simp at *; omega)) _) | (with_reducible refine Below.setCell ?_ (by first | omega | (simp; done) | (simp; omega) | (simp at *; omega)) _) | (with_reducible exact Below.refl _ _) | (with_reducible assumption) | (with_reducible refine Below.trans ?_ (Below.mono (by assumption) (by first | omega | (simp; done) | (simp; omega) | (simp at *; omega)))))))
  clear c2_0 c2_1 c2_2 c2_3 c2_4 c2_5 c2_6 o2_0 n2_0 t2_0_1 t2_0_2 t2_0_3 t2_0_4 t2_0_5 t2_0_6 t2_0_7 o2_1 n2_1 t2_1_1 t2_1_2 t2_1_3 t2_1_4 t2_1_5 t2_1_6 t2_1_7
  have o3_0 : w.heap.size < w3.heap.size := by omega
  have n3_0 : w3.heap.size ≠ w.heap.size := by omega
  have t3_0_1 : w.heap.size < w3.heap.size + 1 := by omega
  have t3_0_2 : w.heap.size < w3.heap.size + 1 + 1 := by omega
  have t3_0_3 : w.heap.size < w3.heap.size + 1 + 1 + 1 := by omega
  have t3_0_4 : w.heap.size < w3.heap.size + 1 + 1 + 1 + 1 := by omega
  have t3_0_5 : w.heap.size < w3.heap.size + 1 + 1 + 1 + 1 + 1 := by omega
  have t3_0_6 : w.heap.size < w3.heap.size + 1 + 1 + 1 + 1 + 1 + 1 := by omega
  have t3_0_7 : w.heap.size < w3.heap.size + 1 + 1 + 1 + 1 + 1 + 1 + 1 := by omega
  have o3_1 : w.heap.size + 1 < w3.heap.size := by omega
  have n3_1 : w3.heap.size ≠ w.heap.size + 1 := by omega
  have t3_1_1 : w.heap.size + 1 < w3.heap.size + 1 := by omega
  have t3_1_2 : w.heap.size + 1 < w3.heap.size + 1 + 1 := by omega
  have t3_1_3 : w.heap.size + 1 < w3.heap.size + 1 + 1 + 1 := by omega
  have t3_1_4 : w.heap.size + 1 < w3.heap.size + 1 + 1 + 1 + 1 := by omega
  have t3_1_5 : w.heap.size + 1 < w3.heap.size + 1 + 1 + 1 + 1 + 1 := by omega
  have t3_1_6 : w.heap.size + 1 < w3.heap.size + 1 + 1 + 1 + 1 + 1 + 1 := by omega
  have t3_1_7 : w.heap.size + 1 < w3.heap.size + 1 + 1 + 1 + 1 + 1 + 1 + 1 := by omega
  have o3_2 : w2.heap.size < w3.heap.size := by omega
  have n3_2 : w3.heap.size ≠ w2.heap.size := by omega
  have t3_2_1 : w2.heap.size < w3.heap.size + 1 := by omega
  have t3_2_2 : w2.heap.size < w3.heap.size + 1 + 1 := by omega
  have t3_2_3 : w2.heap.size < w3.heap.size + 1 + 1 + 1 := by omega
  have t3_2_4 : w2.heap.size < w3.heap.size + 1 + 1 + 1 + 1 := by omega
  have t3_2_5 : w2.heap.size < w3.heap.size + 1 + 1 + 1 + 1 + 1 := by omega
  have t3_2_6 : w2.heap.size < w3.heap.size + 1 + 1 + 1 + 1 + 1 + 1 := by omega
  have t3_2_7 : w2.heap.size < w3.heap.size + 1 + 1 + 1 + 1 + 1 + 1 + 1 := by omega
  have b3 : w.heap.size ≤ w3.heap.size := by omega
  clear hbw3
  go_wp2_with fail
  refine (Rich1 x y s d a b n false _ _ (by simp [go_sem]) (by simp [go_sem]) hg hc hm0).mono ?_
  rintro e w4 ⟨rfl, hbw4⟩
  have z4 := hbw4.size
  try simp at z4
  have c4_0 : w4.cell? ⟨w.heap.size, 0, none⟩ = some (.int .i64 s) := by rw [(bcell hbw4).1 _ _ (by first | (simp; done) | (simp; omega) | omega)]; simp [go_sem, World.cell?_alloc_past, *]
  have c4_1 : w4.cell? ⟨w.heap.size, 1, none⟩ = some (.int .i64 d) := by rw [(bcell hbw4).1 _ _ (by first | (simp; done) | (simp; omega) | omega)]; simp [go_sem, World.cell?_alloc_past, *]
  have c4_2 : w4.cell? ⟨w.heap.size, 2, none⟩ = some (.int .i64 a) := by rw [(bcell hbw4).1 _ _ (by first | (simp; done) | (simp; omega) | omega)]; simp [go_sem, World.cell?_alloc_past, *]
  have c4_3 : w4.cell? ⟨w.heap.size, 3, none⟩ = some (.int .i64 b) := by rw [(bcell hbw4).1 _ _ (by first | (simp; done) | (simp; omega) | omega)]; simp [go_sem, World.cell?_alloc_past, *]
  have c4_4 : w4.cell? ⟨w.heap.size, 4, none⟩ = some (.int .i64 n) := by rw [(bcell hbw4).1 _ _ (by first | (simp; done) | (simp; omega) | omega)]; simp [go_sem, World.cell?_alloc_past, *]
  have c4_5 : w4.cell? ⟨w.heap.size + 1, 0, none⟩ = some (.int .i64 x) := by rw [(bcell hbw4).1 _ _ (by first | (simp; done) | (simp; omega) | omega)]; simp [go_sem, World.cell?_alloc_past, *]
  have c4_6 : w4.cell? ⟨w.heap.size + 1, 1, none⟩ = some (.int .i64 y) := by rw [(bcell hbw4).1 _ _ (by first | (simp; done) | (simp; omega) | omega)]; simp [go_sem, World.cell?_alloc_past, *]
  have c4_7 : w4.cell? ⟨w3.heap.size, 0, none⟩ = some (.int .i64 X) := by rw [(bcell hbw4).1 _ _ (by first | (simp; done) | (simp; omega) | omega)]; simp [go_sem, World.cell?_alloc_past, *]
  have c4_8 : w4.cell? ⟨w3.heap.size, 1, none⟩ = some (.int .i64 Y) := by rw [(bcell hbw4).1 _ _ (by first | (simp; done) | (simp; omega) | omega)]; simp [go_sem, World.cell?_alloc_past, *]
  have c4_9 : w4.cell? ⟨w3.heap.size + 1, 0, none⟩ = some (.int .i64 x) := by rw [(bcell hbw4).1 _ _ (by first | (simp; done) | (simp; omega) | omega)]; simp [go_sem, World.cell?_alloc_past, *]
  have c4_10 : w4.cell? ⟨w3.heap.size + 1, 1, none⟩ = some (.int .i64 y) := by rw [(bcell hbw4).1 _ _ (by first | (simp; done) | (simp; omega) | omega)]; simp [go_sem, World.cell?_alloc_past, *]
  have hB4 : Below w.heap.size w w4 := (by (repeat (first | (with_reducible refine Below.drew ?_) | (with_reducible refine below_drewN ?_ _) | (with_reducible refine Below.alloc ?_ (by first | omega | (simp; done) | (simp; omega) | (simp at *; omega)) _) | (with_reducible refine Below.setCell ?_ (by first | omega | (simp; done) | (simp; omega) | (simp at *; omega)) _) | (with_reducible exact Below.refl _ _) | (with_reducible assumption) | (with_reducible refine Below.trans ?_ (Below.mono (by assumption) (by first | omega | (simp; done) | (simp; omega) | (simp at *; omega)))))))
  clear c3_0 c3_1 c3_2 c3_3 c3_4 c3_5 c3_6 o3_0 n3_0 t3_0_1 t3_0_2 t3_0_3 t3_0_4 t3_0_5 t3_0_6 t3_0_7 o3_1 n3_1 t3_1_1 t3_1_2 t3_1_3 t3_1_4 t3_1_5 t3_1_6 t3_1_7 o3_2 n3_2 t3_2_1 t3_2_2 t3_2_3 t3_2_4 t3_2_5 t3_2_6 t3_2_7
  have o4_0 : w.heap.size < w4.heap.size := by omega
  have n4_0 : w4.heap.size ≠ w.heap.size := by omega
  have t4_0_1 : w.heap.size < w4.heap.size + 1 := by omega
  have t4_0_2 : w.heap.size < w4.heap.size + 1 + 1 := by omega
  have t4_0_3 : w.heap.size < w4.heap.size + 1 + 1 + 1 := by omega
  have t4_0_4 : w.heap.size < w4.heap.size + 1 + 1 + 1 + 1 := by omega
  have t4_0_5 : w.heap.size < w4.heap.size + 1 + 1 + 1 + 1 + 1 := by omega
  have t4_0_6 : w.heap.size < w4.heap.size + 1 + 1 + 1 + 1 + 1 + 1 := by omega
  have t4_0_7 : w.heap.size < w4.heap.size + 1 + 1 + 1 + 1 + 1 + 1 + 1 := by omega
  have o4_1 : w.heap.size + 1 < w4.heap.size := by omega
  have n4_1 : w4.heap.size ≠ w.heap.size + 1 := by omega
  have t4_1_1 : w.heap.size + 1 < w4.heap.size + 1 := by omega
  have t4_1_2 : w.heap.size + 1 < w4.heap.size + 1 + 1 := by omega
  have t4_1_3 : w.heap.size + 1 < w4.heap.size + 1 + 1 + 1 := by omega
  have t4_1_4 : w.heap.size + 1 < w4.heap.size + 1 + 1 + 1 + 1 := by omega
  have t4_1_5 : w.heap.size + 1 < w4.heap.size + 1 + 1 + 1 + 1 + 1 := by omega
  have t4_1_6 : w.heap.size + 1 < w4.heap.size + 1 + 1 + 1 + 1 + 1 + 1 := by omega
  have t4_1_7 : w.heap.size + 1 < w4.heap.size + 1 + 1 + 1 + 1 + 1 + 1 + 1 := by omega
  have o4_2 : w2.heap.size < w4.heap.size := by omega
  have n4_2 : w4.heap.size ≠ w2.heap.size := by omega
  have t4_2_1 : w2.heap.size < w4.heap.size + 1 := by omega
  have t4_2_2 : w2.heap.size < w4.heap.size + 1 + 1 := by omega
  have t4_2_3 : w2.heap.size < w4.heap.size + 1 + 1 + 1 := by omega
  have t4_2_4 : w2.heap.size < w4.heap.size + 1 + 1 + 1 + 1 := by omega
  have t4_2_5 : w2.heap.size < w4.heap.size + 1 + 1 + 1 + 1 + 1 := by omega
  have t4_2_6 : w2.heap.size < w4.heap.size + 1 + 1 + 1 + 1 + 1 + 1 := by omega
  have t4_2_7 : w2.heap.size < w4.heap.size + 1 + 1 + 1 + 1 + 1 + 1 + 1 := by omega
  have o4_3 : w3.heap.size < w4.heap.size := by omega
  have n4_3 : w4.heap.size ≠ w3.heap.size := by omega
  have t4_3_1 : w3.heap.size < w4.heap.size + 1 := by omega
  have t4_3_2 : w3.heap.size < w4.heap.size + 1 + 1 := by omega
  have t4_3_3 : w3.heap.size < w4.heap.size + 1 + 1 + 1 := by omega
  have t4_3_4 : w3.heap.size < w4.heap.size + 1 + 1 + 1 + 1 := by omega
  have t4_3_5 : w3.heap.size < w4.heap.size + 1 + 1 + 1 + 1 + 1 := by omega
  have t4_3_6 : w3.heap.size < w4.heap.size + 1 + 1 + 1 + 1 + 1 + 1 := by omega
  have t4_3_7 : w3.heap.size < w4.heap.size + 1 + 1 + 1 + 1 + 1 + 1 + 1 := by omega
  have o4_4 : w3.heap.size + 1 < w4.heap.size := by omega
  have n4_4 : w4.heap.size ≠ w3.heap.size + 1 := by omega
  have t4_4_1 : w3.heap.size + 1 < w4.heap.size + 1 := by omega
  have t4_4_2 : w3.heap.size + 1 < w4.heap.size + 1 + 1 := by omega
  have t4_4_3 : w3.heap.size + 1 < w4.heap.size + 1 + 1 + 1 := by omega
  have t4_4_4 : w3.heap.size + 1 < w4.heap.size + 1 + 1 + 1 + 1 := by omega
  have t4_4_5 : w3.heap.size + 1 < w4.heap.size + 1 + 1 + 1 + 1 + 1 := by omega
  have t4_4_6 : w3.heap.size + 1 < w4.heap.size + 1 + 1 + 1 + 1 + 1 + 1 := by omega
  have t4_4_7 : w3.heap.size + 1 < w4.heap.size + 1 + 1 + 1 + 1 + 1 + 1 + 1 := by omega
  have b4 : w.heap.size ≤ w4.heap.size := by omega
  clear hbw4
  go_wp2_with fail
  refine (Meets_b x y s d a b n false _ k1 k2 k3 k4 k5 k6 k7 k8 g1 g2 g3 g4 k9 k10 hm0).mono ?_
  rintro e w5 ⟨rfl, hbw5⟩
  have z5 := hbw5.size
  try simp at z5
  have c5_0 : w5.cell? ⟨w.heap.size, 0, none⟩ = some (.int .i64 s) := by rw [(bcell hbw5).1 _ _ (by first | (simp; done) | (simp; omega) | omega)]; simp [go_sem, World.cell?_alloc_past, *]
  have c5_1 : w5.cell? ⟨w.heap.size, 1, none⟩ = some (.int .i64 d) := by rw [(bcell hbw5).1 _ _ (by first | (simp; done) | (simp; omega) | omega)]; simp [go_sem, World.cell?_alloc_past, *]
  have c5_2 : w5.cell? ⟨w.heap.size, 2, none⟩ = some (.int .i64 a) := by rw [(bcell hbw5).1 _ _ (by first | (simp; done) | (simp; omega) | omega)]; simp [go_sem, World.cell?_alloc_past, *]
  have c5_3 : w5.cell? ⟨w.heap.size, 3, none⟩ = some (.int .i64 b) := by rw [(bcell hbw5).1 _ _ (by first | (simp; done) | (simp; omega) | omega)]; simp [go_sem, World.cell?_alloc_past, *]
  have c5_4 : w5.cell? ⟨w.heap.size, 4, none⟩ = some (.int .i64 n) := by rw [(bcell hbw5).1 _ _ (by first | (simp; done) | (simp; omega) | omega)]; simp [go_sem, World.cell?_alloc_past, *]
  have c5_5 : w5.cell? ⟨w.heap.size + 1, 0, none⟩ = some (.int .i64 x) := by rw [(bcell hbw5).1 _ _ (by first | (simp; done) | (simp; omega) | omega)]; simp [go_sem, World.cell?_alloc_past, *]
  have c5_6 : w5.cell? ⟨w.heap.size + 1, 1, none⟩ = some (.int .i64 y) := by rw [(bcell hbw5).1 _ _ (by first | (simp; done) | (simp; omega) | omega)]; simp [go_sem, World.cell?_alloc_past, *]
  have c5_7 : w5.cell? ⟨w3.heap.size, 0, none⟩ = some (.int .i64 X) := by rw [(bcell hbw5).1 _ _ (by first | (simp; done) | (simp; omega) | omega)]; simp [go_sem, World.cell?_alloc_past, *]
  have c5_8 : w5.cell? ⟨w3.heap.size, 1, none⟩ = some (.int .i64 Y) := by rw [(bcell hbw5).1 _ _ (by first | (simp; done) | (simp; omega) | omega)]; simp [go_sem, World.cell?_alloc_past, *]
  have c5_9 : w5.cell? ⟨w3.heap.size + 1, 0, none⟩ = some (.int .i64 x) := by rw [(bcell hbw5).1 _ _ (by first | (simp; done) | (simp; omega) | omega)]; simp [go_sem, World.cell?_alloc_past, *]
  have c5_10 : w5.cell? ⟨w3.heap.size + 1, 1, none⟩ = some (.int .i64 y) := by rw [(bcell hbw5).1 _ _ (by first | (simp; done) | (simp; omega) | omega)]; simp [go_sem, World.cell?_alloc_past, *]
  have hB5 : Below w.heap.size w w5 := (by (repeat (first | (with_reducible refine Below.drew ?_) | (with_reducible refine below_drewN ?_ _) | (with_reducible refine Below.alloc ?_ (by first | omega | (simp; done) | (simp; omega) | (simp at *; omega)) _) | (with_reducible refine Below.setCell ?_ (by first | omega | (simp; done) | (simp; omega) | (simp at *; omega)) _) | (with_reducible exact Below.refl _ _) | (with_reducible assumption) | (with_reducible refine Below.trans ?_ (Below.mono (by assumption) (by first | omega | (simp; done) | (simp; omega) | (simp at *; omega)))))))
  clear c4_0 c4_1 c4_2 c4_3 c4_4 c4_5 c4_6 c4_7 c4_8 c4_9 c4_10 o4_0 n4_0 t4_0_1 t4_0_2 t4_0_3 t4_0_4 t4_0_5 t4_0_6 t4_0_7 o4_1 n4_1 t4_1_1 t4_1_2 t4_1_3 t4_1_4 t4_1_5 t4_1_6 t4_1_7 o4_2 n4_2 t4_2_1 t4_2_2 t4_2_3 t4_2_4 t4_2_5 t4_2_6 t4_2_7 o4_3 n4_3 t4_3_1 t4_3_2 t4_3_3 t4_3_4 t4_3_5 t4_3_6 t4_3_7 o4_4 n4_4 t4_4_1 t4_4_2 t4_4_3 t4_4_4 t4_4_5 t4_4_6 t4_4_7
  have o5_0 : w.heap.size < w5.heap.size := by omega
  have n5_0 : w5.heap.size ≠ w.heap.size := by omega
  have t5_0_1 : w.heap.size < w5.heap.size + 1 := by omega
  have t5_0_2 : w.heap.size < w5.heap.size + 1 + 1 := by omega
  have t5_0_3 : w.heap.size < w5.heap.size + 1 + 1 + 1 := by omega
  have t5_0_4 : w.heap.size < w5.heap.size + 1 + 1 + 1 + 1 := by omega
  have t5_0_5 : w.heap.size < w5.heap.size + 1 + 1 + 1 + 1 + 1 := by omega
  have t5_0_6 : w.heap.size < w5.heap.size + 1 + 1 + 1 + 1 + 1 + 1 := by omega
  have t5_0_7 : w.heap.size < w5.heap.size + 1 + 1 + 1 + 1 + 1 + 1 + 1 := by omega
  have o5_1 : w.heap.size + 1 < w5.heap.size := by omega
  have n5_1 : w5.heap.size ≠ w.heap.size + 1 := by omega
  have t5_1_1 : w.heap.size + 1 < w5.heap.size + 1 := by omega
  have t5_1_2 : w.heap.size + 1 < w5.heap.size + 1 + 1 := by omega
  have t5_1_3 : w.heap.size + 1 < w5.heap.size + 1 + 1 + 1 := by omega
  have t5_1_4 : w.heap.size + 1 < w5.heap.size + 1 + 1 + 1 + 1 := by omega
  have t5_1_5 : w.heap.size + 1 < w5.heap.size + 1 + 1 + 1 + 1 + 1 := by omega
  have t5_1_6 : w.heap.size + 1 < w5.heap.size + 1 + 1 + 1 + 1 + 1 + 1 := by omega
  have t5_1_7 : w.heap.size + 1 < w5.heap.size + 1 + 1 + 1 + 1 + 1 + 1 + 1 := by omega
  have o5_2 : w2.heap.size < w5.heap.size := by omega
  have n5_2 : w5.heap.size ≠ w2.heap.size := by omega
  have t5_2_1 : w2.heap.size < w5.heap.size + 1 := by omega
  have t5_2_2 : w2.heap.size < w5.heap.size + 1 + 1 := by omega
  have t5_2_3 : w2.heap.size < w5.heap.size + 1 + 1 + 1 := by omega
  have t5_2_4 : w2.heap.size < w5.heap.size + 1 + 1 + 1 + 1 := by omega
  have t5_2_5 : w2.heap.size < w5.heap.size + 1 + 1 + 1 + 1 + 1 := by omega
  have t5_2_6 : w2.heap.size < w5.heap.size + 1 + 1 + 1 + 1 + 1 + 1 := by omega
  have t5_2_7 : w2.heap.size < w5.heap.size + 1 + 1 + 1 + 1 + 1 + 1 + 1 := by omega
  have o5_3 : w3.heap.size < w5.heap.size := by omega
  have n5_3 : w5.heap.size ≠ w3.heap.size := by omega
  have t5_3_1 : w3.heap.size < w5.heap.size + 1 := by omega
  have t5_3_2 : w3.heap.size < w5.heap.size + 1 + 1 := by omega
  have t5_3_3 : w3.heap.size < w5.heap.size + 1 + 1 + 1 := by omega
  have t5_3_4 : w3.heap.size < w5.heap.size + 1 + 1 + 1 + 1 := by omega
  have t5_3_5 : w3.heap.size < w5.heap.size + 1 + 1 + 1 + 1 + 1 := by omega
  have t5_3_6 : w3.heap.size < w5.heap.size + 1 + 1 + 1 + 1 + 1 + 1 := by omega
  have t5_3_7 : w3.heap.size < w5.heap.size + 1 + 1 + 1 + 1 + 1 + 1 + 1 := by omega
  have o5_4 : w3.heap.size + 1 < w5.heap.size := by omega
  have n5_4 : w5.heap.size ≠ w3.heap.size + 1 := by omega
  have t5_4_1 : w3.heap.size + 1 < w5.heap.size + 1 := by omega
  have t5_4_2 : w3.heap.size + 1 < w5.heap.size + 1 + 1 := by omega
  have t5_4_3 : w3.heap.size + 1 < w5.heap.size + 1 + 1 + 1 := by omega
  have t5_4_4 : w3.heap.size + 1 < w5.heap.size + 1 + 1 + 1 + 1 := by omega
  have t5_4_5 : w3.heap.size + 1 < w5.heap.size + 1 + 1 + 1 + 1 + 1 := by omega
  have t5_4_6 : w3.heap.size + 1 < w5.heap.size + 1 + 1 + 1 + 1 + 1 + 1 := by omega
  have t5_4_7 : w3.heap.size + 1 < w5.heap.size + 1 + 1 + 1 + 1 + 1 + 1 + 1 := by omega
  have b5 : w.heap.size ≤ w5.heap.size := by omega
  clear hbw5
  go_wp2
  go_ret
  exact ⟨rfl, (by (repeat (first | (with_reducible refine Below.drew ?_) | (with_reducible refine below_drewN ?_ _) | (with_reducible refine Below.alloc ?_ (by first | omega | (simp; done) | (simp; omega) | (simp at *; omega)) _) | (with_reducible refine Below.setCell ?_ (by first | omega | (simp; done) | (simp; omega) | (simp at *; omega)) _) | (with_reducible exact Below.refl _ _) | (with_reducible assumption) | (with_reducible refine Below.trans ?_ (Below.mono (by assumption) (by first | omega | (simp; done) | (simp; omega) | (simp at *; omega)))))))⟩
set_option maxRecDepth 100000 in
set_option maxHeartbeats 4000000 in
theorem tlaw_k (s d a b n x y : Int) (w : World) (m : Int) (hm : w.cell? ⟨1, 0, none⟩ = some (.int .i64 m)) (hc : Hid (aimE s d a b n = 0)) (hg : Hid (gasE x y = 0)) (k1 : 400 ≤ s) (k2 : s ≤ 1100) (k3 : 0 ≤ n) (k4 : n ≤ 30000) (k5 : 1 ≤ a) (k6 : a ≤ 4000) (k7 : 1 ≤ b) (k8 : b ≤ 4000) (k9 : 0 ≤ d) (k10 : d ≤ 30000) (g1 : 0 ≤ x) (g2 : x ≤ 1000) (g3 : 0 ≤ y) (g4 : y ≤ 1000) (hm0 : Hid (metB x y s a b n (s + d) = true)) (X Y : Int) (HM : Hid (metB (bestOx s (s + d) n b) (bestHe s (s + d) n) s a b n (s + d) = true)) (hx : Hid ((if true = true then bestOx s (s + d) n b else 0) = X)) (hy : Hid ((if true = true then bestHe s (s + d) n else 0) = Y)) (hX : Hid (metB X Y s a b n (s + d) = true)) (f1 : Y ≤ y) (f2 : x ≤ X) (f3 : 0 ≤ X) (f4 : X ≤ 1000) (f5 : 0 ≤ Y) (f6 : Y ≤ 1000) (f7 : Hid (gasE X Y = 0)) :
    Calls Tryd.prog 10 #[.agg #[.int .i64 s, .int .i64 d, .int .i64 a, .int .i64 b, .int .i64 n], .agg #[.int .i64 x, .int .i64 y]] w fun e w' => e = .returned (.bool true) ∧ Below w.heap.size w w' := by
  have hl := World.block_lt_of_cell? _ _ hm
  have hne : w.heap.size ≠ 1 := by simp at hl; omega
  have hl2 : 1 < w.heap.size := by simpa using hl
  go_enter Tryd.func10, Tryd.ntmps10
  go_wp2_with fail
  refine (awake_any _ m (by exact oldCell2 (by (repeat (first | (with_reducible refine Below.drew ?_) | (with_reducible refine below_drewN ?_ _) | (with_reducible refine Below.alloc ?_ (by first | omega | (simp; done) | (simp; omega) | (simp at *; omega)) _) | (with_reducible refine Below.setCell ?_ (by first | omega | (simp; done) | (simp; omega) | (simp at *; omega)) _) | (with_reducible exact Below.refl _ _) | (with_reducible assumption) | (with_reducible refine Below.trans ?_ (Below.mono (by assumption) (by first | omega | (simp; done) | (simp; omega) | (simp at *; omega))))))) hm)).mono ?_
  rintro e w1 ⟨rfl, hbw1⟩
  have z1 := hbw1.size
  try simp at z1
  have c1_0 : w1.cell? ⟨w.heap.size, 0, none⟩ = some (.int .i64 s) := by rw [(bcell hbw1).1 _ _ (by first | (simp; done) | (simp; omega) | omega)]; simp [go_sem, World.cell?_alloc_past, *]
  have c1_1 : w1.cell? ⟨w.heap.size, 1, none⟩ = some (.int .i64 d) := by rw [(bcell hbw1).1 _ _ (by first | (simp; done) | (simp; omega) | omega)]; simp [go_sem, World.cell?_alloc_past, *]
  have c1_2 : w1.cell? ⟨w.heap.size, 2, none⟩ = some (.int .i64 a) := by rw [(bcell hbw1).1 _ _ (by first | (simp; done) | (simp; omega) | omega)]; simp [go_sem, World.cell?_alloc_past, *]
  have c1_3 : w1.cell? ⟨w.heap.size, 3, none⟩ = some (.int .i64 b) := by rw [(bcell hbw1).1 _ _ (by first | (simp; done) | (simp; omega) | omega)]; simp [go_sem, World.cell?_alloc_past, *]
  have c1_4 : w1.cell? ⟨w.heap.size, 4, none⟩ = some (.int .i64 n) := by rw [(bcell hbw1).1 _ _ (by first | (simp; done) | (simp; omega) | omega)]; simp [go_sem, World.cell?_alloc_past, *]
  have c1_5 : w1.cell? ⟨w.heap.size + 1, 0, none⟩ = some (.int .i64 x) := by rw [(bcell hbw1).1 _ _ (by first | (simp; done) | (simp; omega) | omega)]; simp [go_sem, World.cell?_alloc_past, *]
  have c1_6 : w1.cell? ⟨w.heap.size + 1, 1, none⟩ = some (.int .i64 y) := by rw [(bcell hbw1).1 _ _ (by first | (simp; done) | (simp; omega) | omega)]; simp [go_sem, World.cell?_alloc_past, *]
  have hB1 : Below w.heap.size w w1 := (by (repeat (first | (with_reducible refine Below.drew ?_) | (with_reducible refine below_drewN ?_ _) | (with_reducible refine Below.alloc ?_ (by first | omega | (simp; done) | (simp; omega) | (simp at *; omega)) _) | (with_reducible refine Below.setCell ?_ (by first | omega | (simp; done) | (simp; omega) | (simp at *; omega)) _) | (with_reducible exact Below.refl _ _) | (with_reducible assumption) | (with_reducible refine Below.trans ?_ (Below.mono (by assumption) (by first | omega | (simp; done) | (simp; omega) | (simp at *; omega)))))))
  have o1_0 : w.heap.size < w1.heap.size := by omega
  have n1_0 : w1.heap.size ≠ w.heap.size := by omega
  have t1_0_1 : w.heap.size < w1.heap.size + 1 := by omega
  have t1_0_2 : w.heap.size < w1.heap.size + 1 + 1 := by omega
  have t1_0_3 : w.heap.size < w1.heap.size + 1 + 1 + 1 := by omega
  have t1_0_4 : w.heap.size < w1.heap.size + 1 + 1 + 1 + 1 := by omega
  have t1_0_5 : w.heap.size < w1.heap.size + 1 + 1 + 1 + 1 + 1 := by omega
  have t1_0_6 : w.heap.size < w1.heap.size + 1 + 1 + 1 + 1 + 1 + 1 := by omega
  have t1_0_7 : w.heap.size < w1.heap.size + 1 + 1 + 1 + 1 + 1 + 1 + 1 := by omega
  have o1_1 : w.heap.size + 1 < w1.heap.size := by omega
  have n1_1 : w1.heap.size ≠ w.heap.size + 1 := by omega
  have t1_1_1 : w.heap.size + 1 < w1.heap.size + 1 := by omega
  have t1_1_2 : w.heap.size + 1 < w1.heap.size + 1 + 1 := by omega
  have t1_1_3 : w.heap.size + 1 < w1.heap.size + 1 + 1 + 1 := by omega
  have t1_1_4 : w.heap.size + 1 < w1.heap.size + 1 + 1 + 1 + 1 := by omega
  have t1_1_5 : w.heap.size + 1 < w1.heap.size + 1 + 1 + 1 + 1 + 1 := by omega
  have t1_1_6 : w.heap.size + 1 < w1.heap.size + 1 + 1 + 1 + 1 + 1 + 1 := by omega
  have t1_1_7 : w.heap.size + 1 < w1.heap.size + 1 + 1 + 1 + 1 + 1 + 1 + 1 := by omega
  have b1 : w.heap.size ≤ w1.heap.size := by omega
  clear hbw1
  go_wp2_with fail
  refine (refCheckAim_is _ _ _ _ _ 0 _ hc).mono ?_
  rintro e w2 ⟨rfl, hbw2⟩
  have z2 := hbw2.size
  try simp at z2
  have c2_0 : w2.cell? ⟨w.heap.size, 0, none⟩ = some (.int .i64 s) := by rw [(bcell hbw2).1 _ _ (by first | (simp; done) | (simp; omega) | omega)]; simp [go_sem, World.cell?_alloc_past, *]
  have c2_1 : w2.cell? ⟨w.heap.size, 1, none⟩ = some (.int .i64 d) := by rw [(bcell hbw2).1 _ _ (by first | (simp; done) | (simp; omega) | omega)]; simp [go_sem, World.cell?_alloc_past, *]
  have c2_2 : w2.cell? ⟨w.heap.size, 2, none⟩ = some (.int .i64 a) := by rw [(bcell hbw2).1 _ _ (by first | (simp; done) | (simp; omega) | omega)]; simp [go_sem, World.cell?_alloc_past, *]
  have c2_3 : w2.cell? ⟨w.heap.size, 3, none⟩ = some (.int .i64 b) := by rw [(bcell hbw2).1 _ _ (by first | (simp; done) | (simp; omega) | omega)]; simp [go_sem, World.cell?_alloc_past, *]
  have c2_4 : w2.cell? ⟨w.heap.size, 4, none⟩ = some (.int .i64 n) := by rw [(bcell hbw2).1 _ _ (by first | (simp; done) | (simp; omega) | omega)]; simp [go_sem, World.cell?_alloc_past, *]
  have c2_5 : w2.cell? ⟨w.heap.size + 1, 0, none⟩ = some (.int .i64 x) := by rw [(bcell hbw2).1 _ _ (by first | (simp; done) | (simp; omega) | omega)]; simp [go_sem, World.cell?_alloc_past, *]
  have c2_6 : w2.cell? ⟨w.heap.size + 1, 1, none⟩ = some (.int .i64 y) := by rw [(bcell hbw2).1 _ _ (by first | (simp; done) | (simp; omega) | omega)]; simp [go_sem, World.cell?_alloc_past, *]
  have hB2 : Below w.heap.size w w2 := (by (repeat (first | (with_reducible refine Below.drew ?_) | (with_reducible refine below_drewN ?_ _) | (with_reducible refine Below.alloc ?_ (by first | omega | (simp; done) | (simp; omega) | (simp at *; omega)) _) | (with_reducible refine Below.setCell ?_ (by first | omega | (simp; done) | (simp; omega) | (simp at *; omega)) _) | (with_reducible exact Below.refl _ _) | (with_reducible assumption) | (with_reducible refine Below.trans ?_ (Below.mono (by assumption) (by first | omega | (simp; done) | (simp; omega) | (simp at *; omega)))))))
  clear c1_0 c1_1 c1_2 c1_3 c1_4 c1_5 c1_6 o1_0 n1_0 t1_0_1 t1_0_2 t1_0_3 t1_0_4 t1_0_5 t1_0_6 t1_0_7 o1_1 n1_1 t1_1_1 t1_1_2 t1_1_3 t1_1_4 t1_1_5 t1_1_6 t1_1_7
  have o2_0 : w.heap.size < w2.heap.size := by omega
  have n2_0 : w2.heap.size ≠ w.heap.size := by omega
  have t2_0_1 : w.heap.size < w2.heap.size + 1 := by omega
  have t2_0_2 : w.heap.size < w2.heap.size + 1 + 1 := by omega
  have t2_0_3 : w.heap.size < w2.heap.size + 1 + 1 + 1 := by omega
  have t2_0_4 : w.heap.size < w2.heap.size + 1 + 1 + 1 + 1 := by omega
  have t2_0_5 : w.heap.size < w2.heap.size + 1 + 1 + 1 + 1 + 1 := by omega
  have t2_0_6 : w.heap.size < w2.heap.size + 1 + 1 + 1 + 1 + 1 + 1 := by omega
  have t2_0_7 : w.heap.size < w2.heap.size + 1 + 1 + 1 + 1 + 1 + 1 + 1 := by omega
  have o2_1 : w.heap.size + 1 < w2.heap.size := by omega
  have n2_1 : w2.heap.size ≠ w.heap.size + 1 := by omega
  have t2_1_1 : w.heap.size + 1 < w2.heap.size + 1 := by omega
  have t2_1_2 : w.heap.size + 1 < w2.heap.size + 1 + 1 := by omega
  have t2_1_3 : w.heap.size + 1 < w2.heap.size + 1 + 1 + 1 := by omega
  have t2_1_4 : w.heap.size + 1 < w2.heap.size + 1 + 1 + 1 + 1 := by omega
  have t2_1_5 : w.heap.size + 1 < w2.heap.size + 1 + 1 + 1 + 1 + 1 := by omega
  have t2_1_6 : w.heap.size + 1 < w2.heap.size + 1 + 1 + 1 + 1 + 1 + 1 := by omega
  have t2_1_7 : w.heap.size + 1 < w2.heap.size + 1 + 1 + 1 + 1 + 1 + 1 + 1 := by omega
  have b2 : w.heap.size ≤ w2.heap.size := by omega
  clear hbw2
  go_wp2_with ((go_at_call 20; ((with_reducible refine (refCheckGas_c _ _ 0 _ hg).mono ?_)); rintro e w' ⟨rfl, rfl⟩))
  refine (BestGas_m _ _ _ _ _ X Y _ hc true HM hx hy).mono ?_
  rintro e w3 ⟨rfl, hbw3⟩
  have z3 := hbw3.size
  try simp at z3
  have c3_0 : w3.cell? ⟨w.heap.size, 0, none⟩ = some (.int .i64 s) := by rw [(bcell hbw3).1 _ _ (by first | (simp; done) | (simp; omega) | omega)]; simp [go_sem, World.cell?_alloc_past, *]
  have c3_1 : w3.cell? ⟨w.heap.size, 1, none⟩ = some (.int .i64 d) := by rw [(bcell hbw3).1 _ _ (by first | (simp; done) | (simp; omega) | omega)]; simp [go_sem, World.cell?_alloc_past, *]
  have c3_2 : w3.cell? ⟨w.heap.size, 2, none⟩ = some (.int .i64 a) := by rw [(bcell hbw3).1 _ _ (by first | (simp; done) | (simp; omega) | omega)]; simp [go_sem, World.cell?_alloc_past, *]
  have c3_3 : w3.cell? ⟨w.heap.size, 3, none⟩ = some (.int .i64 b) := by rw [(bcell hbw3).1 _ _ (by first | (simp; done) | (simp; omega) | omega)]; simp [go_sem, World.cell?_alloc_past, *]
  have c3_4 : w3.cell? ⟨w.heap.size, 4, none⟩ = some (.int .i64 n) := by rw [(bcell hbw3).1 _ _ (by first | (simp; done) | (simp; omega) | omega)]; simp [go_sem, World.cell?_alloc_past, *]
  have c3_5 : w3.cell? ⟨w.heap.size + 1, 0, none⟩ = some (.int .i64 x) := by rw [(bcell hbw3).1 _ _ (by first | (simp; done) | (simp; omega) | omega)]; simp [go_sem, World.cell?_alloc_past, *]
  have c3_6 : w3.cell? ⟨w.heap.size + 1, 1, none⟩ = some (.int .i64 y) := by rw [(bcell hbw3).1 _ _ (by first | (simp; done) | (simp; omega) | omega)]; simp [go_sem, World.cell?_alloc_past, *]
  have hB3 : Below w.heap.size w w3 := (by (repeat (first | (with_reducible refine Below.drew ?_) | (with_reducible refine below_drewN ?_ _) | (with_reducible refine Below.alloc ?_ (by first | omega | (simp; done) | (simp; omega) | (simp at *; omega)) _) | (with_reducible refine Below.setCell ?_ (by first | omega | (simp; done) | (simp; omega) | (simp at *; omega)) _) | (with_reducible exact Below.refl _ _) | (with_reducible assumption) | (with_reducible refine Below.trans ?_ (Below.mono (by assumption) (by first | omega | (simp; done) | (simp; omega) | (simp at *; omega)))))))
  clear c2_0 c2_1 c2_2 c2_3 c2_4 c2_5 c2_6 o2_0 n2_0 t2_0_1 t2_0_2 t2_0_3 t2_0_4 t2_0_5 t2_0_6 t2_0_7 o2_1 n2_1 t2_1_1 t2_1_2 t2_1_3 t2_1_4 t2_1_5 t2_1_6 t2_1_7
  have o3_0 : w.heap.size < w3.heap.size := by omega
  have n3_0 : w3.heap.size ≠ w.heap.size := by omega
  have t3_0_1 : w.heap.size < w3.heap.size + 1 := by omega
  have t3_0_2 : w.heap.size < w3.heap.size + 1 + 1 := by omega
  have t3_0_3 : w.heap.size < w3.heap.size + 1 + 1 + 1 := by omega
  have t3_0_4 : w.heap.size < w3.heap.size + 1 + 1 + 1 + 1 := by omega
  have t3_0_5 : w.heap.size < w3.heap.size + 1 + 1 + 1 + 1 + 1 := by omega
  have t3_0_6 : w.heap.size < w3.heap.size + 1 + 1 + 1 + 1 + 1 + 1 := by omega
  have t3_0_7 : w.heap.size < w3.heap.size + 1 + 1 + 1 + 1 + 1 + 1 + 1 := by omega
  have o3_1 : w.heap.size + 1 < w3.heap.size := by omega
  have n3_1 : w3.heap.size ≠ w.heap.size + 1 := by omega
  have t3_1_1 : w.heap.size + 1 < w3.heap.size + 1 := by omega
  have t3_1_2 : w.heap.size + 1 < w3.heap.size + 1 + 1 := by omega
  have t3_1_3 : w.heap.size + 1 < w3.heap.size + 1 + 1 + 1 := by omega
  have t3_1_4 : w.heap.size + 1 < w3.heap.size + 1 + 1 + 1 + 1 := by omega
  have t3_1_5 : w.heap.size + 1 < w3.heap.size + 1 + 1 + 1 + 1 + 1 := by omega
  have t3_1_6 : w.heap.size + 1 < w3.heap.size + 1 + 1 + 1 + 1 + 1 + 1 := by omega
  have t3_1_7 : w.heap.size + 1 < w3.heap.size + 1 + 1 + 1 + 1 + 1 + 1 + 1 := by omega
  have o3_2 : w2.heap.size < w3.heap.size := by omega
  have n3_2 : w3.heap.size ≠ w2.heap.size := by omega
  have t3_2_1 : w2.heap.size < w3.heap.size + 1 := by omega
  have t3_2_2 : w2.heap.size < w3.heap.size + 1 + 1 := by omega
  have t3_2_3 : w2.heap.size < w3.heap.size + 1 + 1 + 1 := by omega
  have t3_2_4 : w2.heap.size < w3.heap.size + 1 + 1 + 1 + 1 := by omega
  have t3_2_5 : w2.heap.size < w3.heap.size + 1 + 1 + 1 + 1 + 1 := by omega
  have t3_2_6 : w2.heap.size < w3.heap.size + 1 + 1 + 1 + 1 + 1 + 1 := by omega
  have t3_2_7 : w2.heap.size < w3.heap.size + 1 + 1 + 1 + 1 + 1 + 1 + 1 := by omega
  have b3 : w.heap.size ≤ w3.heap.size := by omega
  clear hbw3
  go_wp2_with fail
  refine (Rich1 x y s d a b n true _ _ (by simp [go_sem]) (by simp [go_sem]) hg hc hm0).mono ?_
  rintro e w4 ⟨rfl, hbw4⟩
  have z4 := hbw4.size
  try simp at z4
  have c4_0 : w4.cell? ⟨w.heap.size, 0, none⟩ = some (.int .i64 s) := by rw [(bcell hbw4).1 _ _ (by first | (simp; done) | (simp; omega) | omega)]; simp [go_sem, World.cell?_alloc_past, *]
  have c4_1 : w4.cell? ⟨w.heap.size, 1, none⟩ = some (.int .i64 d) := by rw [(bcell hbw4).1 _ _ (by first | (simp; done) | (simp; omega) | omega)]; simp [go_sem, World.cell?_alloc_past, *]
  have c4_2 : w4.cell? ⟨w.heap.size, 2, none⟩ = some (.int .i64 a) := by rw [(bcell hbw4).1 _ _ (by first | (simp; done) | (simp; omega) | omega)]; simp [go_sem, World.cell?_alloc_past, *]
  have c4_3 : w4.cell? ⟨w.heap.size, 3, none⟩ = some (.int .i64 b) := by rw [(bcell hbw4).1 _ _ (by first | (simp; done) | (simp; omega) | omega)]; simp [go_sem, World.cell?_alloc_past, *]
  have c4_4 : w4.cell? ⟨w.heap.size, 4, none⟩ = some (.int .i64 n) := by rw [(bcell hbw4).1 _ _ (by first | (simp; done) | (simp; omega) | omega)]; simp [go_sem, World.cell?_alloc_past, *]
  have c4_5 : w4.cell? ⟨w.heap.size + 1, 0, none⟩ = some (.int .i64 x) := by rw [(bcell hbw4).1 _ _ (by first | (simp; done) | (simp; omega) | omega)]; simp [go_sem, World.cell?_alloc_past, *]
  have c4_6 : w4.cell? ⟨w.heap.size + 1, 1, none⟩ = some (.int .i64 y) := by rw [(bcell hbw4).1 _ _ (by first | (simp; done) | (simp; omega) | omega)]; simp [go_sem, World.cell?_alloc_past, *]
  have c4_7 : w4.cell? ⟨w3.heap.size, 0, none⟩ = some (.int .i64 X) := by rw [(bcell hbw4).1 _ _ (by first | (simp; done) | (simp; omega) | omega)]; simp [go_sem, World.cell?_alloc_past, *]
  have c4_8 : w4.cell? ⟨w3.heap.size, 1, none⟩ = some (.int .i64 Y) := by rw [(bcell hbw4).1 _ _ (by first | (simp; done) | (simp; omega) | omega)]; simp [go_sem, World.cell?_alloc_past, *]
  have c4_9 : w4.cell? ⟨w3.heap.size + 1, 0, none⟩ = some (.int .i64 x) := by rw [(bcell hbw4).1 _ _ (by first | (simp; done) | (simp; omega) | omega)]; simp [go_sem, World.cell?_alloc_past, *]
  have c4_10 : w4.cell? ⟨w3.heap.size + 1, 1, none⟩ = some (.int .i64 y) := by rw [(bcell hbw4).1 _ _ (by first | (simp; done) | (simp; omega) | omega)]; simp [go_sem, World.cell?_alloc_past, *]
  have hB4 : Below w.heap.size w w4 := (by (repeat (first | (with_reducible refine Below.drew ?_) | (with_reducible refine below_drewN ?_ _) | (with_reducible refine Below.alloc ?_ (by first | omega | (simp; done) | (simp; omega) | (simp at *; omega)) _) | (with_reducible refine Below.setCell ?_ (by first | omega | (simp; done) | (simp; omega) | (simp at *; omega)) _) | (with_reducible exact Below.refl _ _) | (with_reducible assumption) | (with_reducible refine Below.trans ?_ (Below.mono (by assumption) (by first | omega | (simp; done) | (simp; omega) | (simp at *; omega)))))))
  clear c3_0 c3_1 c3_2 c3_3 c3_4 c3_5 c3_6 o3_0 n3_0 t3_0_1 t3_0_2 t3_0_3 t3_0_4 t3_0_5 t3_0_6 t3_0_7 o3_1 n3_1 t3_1_1 t3_1_2 t3_1_3 t3_1_4 t3_1_5 t3_1_6 t3_1_7 o3_2 n3_2 t3_2_1 t3_2_2 t3_2_3 t3_2_4 t3_2_5 t3_2_6 t3_2_7
  have o4_0 : w.heap.size < w4.heap.size := by omega
  have n4_0 : w4.heap.size ≠ w.heap.size := by omega
  have t4_0_1 : w.heap.size < w4.heap.size + 1 := by omega
  have t4_0_2 : w.heap.size < w4.heap.size + 1 + 1 := by omega
  have t4_0_3 : w.heap.size < w4.heap.size + 1 + 1 + 1 := by omega
  have t4_0_4 : w.heap.size < w4.heap.size + 1 + 1 + 1 + 1 := by omega
  have t4_0_5 : w.heap.size < w4.heap.size + 1 + 1 + 1 + 1 + 1 := by omega
  have t4_0_6 : w.heap.size < w4.heap.size + 1 + 1 + 1 + 1 + 1 + 1 := by omega
  have t4_0_7 : w.heap.size < w4.heap.size + 1 + 1 + 1 + 1 + 1 + 1 + 1 := by omega
  have o4_1 : w.heap.size + 1 < w4.heap.size := by omega
  have n4_1 : w4.heap.size ≠ w.heap.size + 1 := by omega
  have t4_1_1 : w.heap.size + 1 < w4.heap.size + 1 := by omega
  have t4_1_2 : w.heap.size + 1 < w4.heap.size + 1 + 1 := by omega
  have t4_1_3 : w.heap.size + 1 < w4.heap.size + 1 + 1 + 1 := by omega
  have t4_1_4 : w.heap.size + 1 < w4.heap.size + 1 + 1 + 1 + 1 := by omega
  have t4_1_5 : w.heap.size + 1 < w4.heap.size + 1 + 1 + 1 + 1 + 1 := by omega
  have t4_1_6 : w.heap.size + 1 < w4.heap.size + 1 + 1 + 1 + 1 + 1 + 1 := by omega
  have t4_1_7 : w.heap.size + 1 < w4.heap.size + 1 + 1 + 1 + 1 + 1 + 1 + 1 := by omega
  have o4_2 : w2.heap.size < w4.heap.size := by omega
  have n4_2 : w4.heap.size ≠ w2.heap.size := by omega
  have t4_2_1 : w2.heap.size < w4.heap.size + 1 := by omega
  have t4_2_2 : w2.heap.size < w4.heap.size + 1 + 1 := by omega
  have t4_2_3 : w2.heap.size < w4.heap.size + 1 + 1 + 1 := by omega
  have t4_2_4 : w2.heap.size < w4.heap.size + 1 + 1 + 1 + 1 := by omega
  have t4_2_5 : w2.heap.size < w4.heap.size + 1 + 1 + 1 + 1 + 1 := by omega
  have t4_2_6 : w2.heap.size < w4.heap.size + 1 + 1 + 1 + 1 + 1 + 1 := by omega
  have t4_2_7 : w2.heap.size < w4.heap.size + 1 + 1 + 1 + 1 + 1 + 1 + 1 := by omega
  have o4_3 : w3.heap.size < w4.heap.size := by omega
  have n4_3 : w4.heap.size ≠ w3.heap.size := by omega
  have t4_3_1 : w3.heap.size < w4.heap.size + 1 := by omega
  have t4_3_2 : w3.heap.size < w4.heap.size + 1 + 1 := by omega
  have t4_3_3 : w3.heap.size < w4.heap.size + 1 + 1 + 1 := by omega
  have t4_3_4 : w3.heap.size < w4.heap.size + 1 + 1 + 1 + 1 := by omega
  have t4_3_5 : w3.heap.size < w4.heap.size + 1 + 1 + 1 + 1 + 1 := by omega
  have t4_3_6 : w3.heap.size < w4.heap.size + 1 + 1 + 1 + 1 + 1 + 1 := by omega
  have t4_3_7 : w3.heap.size < w4.heap.size + 1 + 1 + 1 + 1 + 1 + 1 + 1 := by omega
  have o4_4 : w3.heap.size + 1 < w4.heap.size := by omega
  have n4_4 : w4.heap.size ≠ w3.heap.size + 1 := by omega
  have t4_4_1 : w3.heap.size + 1 < w4.heap.size + 1 := by omega
  have t4_4_2 : w3.heap.size + 1 < w4.heap.size + 1 + 1 := by omega
  have t4_4_3 : w3.heap.size + 1 < w4.heap.size + 1 + 1 + 1 := by omega
  have t4_4_4 : w3.heap.size + 1 < w4.heap.size + 1 + 1 + 1 + 1 := by omega
  have t4_4_5 : w3.heap.size + 1 < w4.heap.size + 1 + 1 + 1 + 1 + 1 := by omega
  have t4_4_6 : w3.heap.size + 1 < w4.heap.size + 1 + 1 + 1 + 1 + 1 + 1 := by omega
  have t4_4_7 : w3.heap.size + 1 < w4.heap.size + 1 + 1 + 1 + 1 + 1 + 1 + 1 := by omega
  have b4 : w.heap.size ≤ w4.heap.size := by omega
  clear hbw4
  go_wp2_with fail
  refine (Meets_b x y s d a b n true _ k1 k2 k3 k4 k5 k6 k7 k8 g1 g2 g3 g4 k9 k10 hm0).mono ?_
  rintro e w5 ⟨rfl, hbw5⟩
  have z5 := hbw5.size
  try simp at z5
  have c5_0 : w5.cell? ⟨w.heap.size, 0, none⟩ = some (.int .i64 s) := by rw [(bcell hbw5).1 _ _ (by first | (simp; done) | (simp; omega) | omega)]; simp [go_sem, World.cell?_alloc_past, *]
  have c5_1 : w5.cell? ⟨w.heap.size, 1, none⟩ = some (.int .i64 d) := by rw [(bcell hbw5).1 _ _ (by first | (simp; done) | (simp; omega) | omega)]; simp [go_sem, World.cell?_alloc_past, *]
  have c5_2 : w5.cell? ⟨w.heap.size, 2, none⟩ = some (.int .i64 a) := by rw [(bcell hbw5).1 _ _ (by first | (simp; done) | (simp; omega) | omega)]; simp [go_sem, World.cell?_alloc_past, *]
  have c5_3 : w5.cell? ⟨w.heap.size, 3, none⟩ = some (.int .i64 b) := by rw [(bcell hbw5).1 _ _ (by first | (simp; done) | (simp; omega) | omega)]; simp [go_sem, World.cell?_alloc_past, *]
  have c5_4 : w5.cell? ⟨w.heap.size, 4, none⟩ = some (.int .i64 n) := by rw [(bcell hbw5).1 _ _ (by first | (simp; done) | (simp; omega) | omega)]; simp [go_sem, World.cell?_alloc_past, *]
  have c5_5 : w5.cell? ⟨w.heap.size + 1, 0, none⟩ = some (.int .i64 x) := by rw [(bcell hbw5).1 _ _ (by first | (simp; done) | (simp; omega) | omega)]; simp [go_sem, World.cell?_alloc_past, *]
  have c5_6 : w5.cell? ⟨w.heap.size + 1, 1, none⟩ = some (.int .i64 y) := by rw [(bcell hbw5).1 _ _ (by first | (simp; done) | (simp; omega) | omega)]; simp [go_sem, World.cell?_alloc_past, *]
  have c5_7 : w5.cell? ⟨w3.heap.size, 0, none⟩ = some (.int .i64 X) := by rw [(bcell hbw5).1 _ _ (by first | (simp; done) | (simp; omega) | omega)]; simp [go_sem, World.cell?_alloc_past, *]
  have c5_8 : w5.cell? ⟨w3.heap.size, 1, none⟩ = some (.int .i64 Y) := by rw [(bcell hbw5).1 _ _ (by first | (simp; done) | (simp; omega) | omega)]; simp [go_sem, World.cell?_alloc_past, *]
  have c5_9 : w5.cell? ⟨w3.heap.size + 1, 0, none⟩ = some (.int .i64 x) := by rw [(bcell hbw5).1 _ _ (by first | (simp; done) | (simp; omega) | omega)]; simp [go_sem, World.cell?_alloc_past, *]
  have c5_10 : w5.cell? ⟨w3.heap.size + 1, 1, none⟩ = some (.int .i64 y) := by rw [(bcell hbw5).1 _ _ (by first | (simp; done) | (simp; omega) | omega)]; simp [go_sem, World.cell?_alloc_past, *]
  have hB5 : Below w.heap.size w w5 := (by (repeat (first | (with_reducible refine Below.drew ?_) | (with_reducible refine below_drewN ?_ _) | (with_reducible refine Below.alloc ?_ (by first | omega | (simp; done) | (simp; omega) | (simp at *; omega)) _) | (with_reducible refine Below.setCell ?_ (by first | omega | (simp; done) | (simp; omega) | (simp at *; omega)) _) | (with_reducible exact Below.refl _ _) | (with_reducible assumption) | (with_reducible refine Below.trans ?_ (Below.mono (by assumption) (by first | omega | (simp; done) | (simp; omega) | (simp at *; omega)))))))
  clear c4_0 c4_1 c4_2 c4_3 c4_4 c4_5 c4_6 c4_7 c4_8 c4_9 c4_10 o4_0 n4_0 t4_0_1 t4_0_2 t4_0_3 t4_0_4 t4_0_5 t4_0_6 t4_0_7 o4_1 n4_1 t4_1_1 t4_1_2 t4_1_3 t4_1_4 t4_1_5 t4_1_6 t4_1_7 o4_2 n4_2 t4_2_1 t4_2_2 t4_2_3 t4_2_4 t4_2_5 t4_2_6 t4_2_7 o4_3 n4_3 t4_3_1 t4_3_2 t4_3_3 t4_3_4 t4_3_5 t4_3_6 t4_3_7 o4_4 n4_4 t4_4_1 t4_4_2 t4_4_3 t4_4_4 t4_4_5 t4_4_6 t4_4_7
  have o5_0 : w.heap.size < w5.heap.size := by omega
  have n5_0 : w5.heap.size ≠ w.heap.size := by omega
  have t5_0_1 : w.heap.size < w5.heap.size + 1 := by omega
  have t5_0_2 : w.heap.size < w5.heap.size + 1 + 1 := by omega
  have t5_0_3 : w.heap.size < w5.heap.size + 1 + 1 + 1 := by omega
  have t5_0_4 : w.heap.size < w5.heap.size + 1 + 1 + 1 + 1 := by omega
  have t5_0_5 : w.heap.size < w5.heap.size + 1 + 1 + 1 + 1 + 1 := by omega
  have t5_0_6 : w.heap.size < w5.heap.size + 1 + 1 + 1 + 1 + 1 + 1 := by omega
  have t5_0_7 : w.heap.size < w5.heap.size + 1 + 1 + 1 + 1 + 1 + 1 + 1 := by omega
  have o5_1 : w.heap.size + 1 < w5.heap.size := by omega
  have n5_1 : w5.heap.size ≠ w.heap.size + 1 := by omega
  have t5_1_1 : w.heap.size + 1 < w5.heap.size + 1 := by omega
  have t5_1_2 : w.heap.size + 1 < w5.heap.size + 1 + 1 := by omega
  have t5_1_3 : w.heap.size + 1 < w5.heap.size + 1 + 1 + 1 := by omega
  have t5_1_4 : w.heap.size + 1 < w5.heap.size + 1 + 1 + 1 + 1 := by omega
  have t5_1_5 : w.heap.size + 1 < w5.heap.size + 1 + 1 + 1 + 1 + 1 := by omega
  have t5_1_6 : w.heap.size + 1 < w5.heap.size + 1 + 1 + 1 + 1 + 1 + 1 := by omega
  have t5_1_7 : w.heap.size + 1 < w5.heap.size + 1 + 1 + 1 + 1 + 1 + 1 + 1 := by omega
  have o5_2 : w2.heap.size < w5.heap.size := by omega
  have n5_2 : w5.heap.size ≠ w2.heap.size := by omega
  have t5_2_1 : w2.heap.size < w5.heap.size + 1 := by omega
  have t5_2_2 : w2.heap.size < w5.heap.size + 1 + 1 := by omega
  have t5_2_3 : w2.heap.size < w5.heap.size + 1 + 1 + 1 := by omega
  have t5_2_4 : w2.heap.size < w5.heap.size + 1 + 1 + 1 + 1 := by omega
  have t5_2_5 : w2.heap.size < w5.heap.size + 1 + 1 + 1 + 1 + 1 := by omega
  have t5_2_6 : w2.heap.size < w5.heap.size + 1 + 1 + 1 + 1 + 1 + 1 := by omega
  have t5_2_7 : w2.heap.size < w5.heap.size + 1 + 1 + 1 + 1 + 1 + 1 + 1 := by omega
  have o5_3 : w3.heap.size < w5.heap.size := by omega
  have n5_3 : w5.heap.size ≠ w3.heap.size := by omega
  have t5_3_1 : w3.heap.size < w5.heap.size + 1 := by omega
  have t5_3_2 : w3.heap.size < w5.heap.size + 1 + 1 := by omega
  have t5_3_3 : w3.heap.size < w5.heap.size + 1 + 1 + 1 := by omega
  have t5_3_4 : w3.heap.size < w5.heap.size + 1 + 1 + 1 + 1 := by omega
  have t5_3_5 : w3.heap.size < w5.heap.size + 1 + 1 + 1 + 1 + 1 := by omega
  have t5_3_6 : w3.heap.size < w5.heap.size + 1 + 1 + 1 + 1 + 1 + 1 := by omega
  have t5_3_7 : w3.heap.size < w5.heap.size + 1 + 1 + 1 + 1 + 1 + 1 + 1 := by omega
  have o5_4 : w3.heap.size + 1 < w5.heap.size := by omega
  have n5_4 : w5.heap.size ≠ w3.heap.size + 1 := by omega
  have t5_4_1 : w3.heap.size + 1 < w5.heap.size + 1 := by omega
  have t5_4_2 : w3.heap.size + 1 < w5.heap.size + 1 + 1 := by omega
  have t5_4_3 : w3.heap.size + 1 < w5.heap.size + 1 + 1 + 1 := by omega
  have t5_4_4 : w3.heap.size + 1 < w5.heap.size + 1 + 1 + 1 + 1 := by omega
  have t5_4_5 : w3.heap.size + 1 < w5.heap.size + 1 + 1 + 1 + 1 + 1 := by omega
  have t5_4_6 : w3.heap.size + 1 < w5.heap.size + 1 + 1 + 1 + 1 + 1 + 1 := by omega
  have t5_4_7 : w3.heap.size + 1 < w5.heap.size + 1 + 1 + 1 + 1 + 1 + 1 + 1 := by omega
  have b5 : w.heap.size ≤ w5.heap.size := by omega
  clear hbw5
  go_wp2_with ((go_at_call 20; ((with_reducible refine (refCheckGas_c _ _ 0 _ f7).mono ?_)); rintro e w' ⟨rfl, rfl⟩))
  refine (Meets_b X Y s d a b n true _ k1 k2 k3 k4 k5 k6 k7 k8 f3 f4 f5 f6 k9 k10 hX).mono ?_
  rintro e w6 ⟨rfl, hbw6⟩
  have z6 := hbw6.size
  try simp at z6
  have c6_0 : w6.cell? ⟨w.heap.size, 0, none⟩ = some (.int .i64 s) := by rw [(bcell hbw6).1 _ _ (by first | (simp; done) | (simp; omega) | omega)]; simp [go_sem, World.cell?_alloc_past, *]
  have c6_1 : w6.cell? ⟨w.heap.size, 1, none⟩ = some (.int .i64 d) := by rw [(bcell hbw6).1 _ _ (by first | (simp; done) | (simp; omega) | omega)]; simp [go_sem, World.cell?_alloc_past, *]
  have c6_2 : w6.cell? ⟨w.heap.size, 2, none⟩ = some (.int .i64 a) := by rw [(bcell hbw6).1 _ _ (by first | (simp; done) | (simp; omega) | omega)]; simp [go_sem, World.cell?_alloc_past, *]
  have c6_3 : w6.cell? ⟨w.heap.size, 3, none⟩ = some (.int .i64 b) := by rw [(bcell hbw6).1 _ _ (by first | (simp; done) | (simp; omega) | omega)]; simp [go_sem, World.cell?_alloc_past, *]
  have c6_4 : w6.cell? ⟨w.heap.size, 4, none⟩ = some (.int .i64 n) := by rw [(bcell hbw6).1 _ _ (by first | (simp; done) | (simp; omega) | omega)]; simp [go_sem, World.cell?_alloc_past, *]
  have c6_5 : w6.cell? ⟨w.heap.size + 1, 0, none⟩ = some (.int .i64 x) := by rw [(bcell hbw6).1 _ _ (by first | (simp; done) | (simp; omega) | omega)]; simp [go_sem, World.cell?_alloc_past, *]
  have c6_6 : w6.cell? ⟨w.heap.size + 1, 1, none⟩ = some (.int .i64 y) := by rw [(bcell hbw6).1 _ _ (by first | (simp; done) | (simp; omega) | omega)]; simp [go_sem, World.cell?_alloc_past, *]
  have c6_7 : w6.cell? ⟨w3.heap.size, 0, none⟩ = some (.int .i64 X) := by rw [(bcell hbw6).1 _ _ (by first | (simp; done) | (simp; omega) | omega)]; simp [go_sem, World.cell?_alloc_past, *]
  have c6_8 : w6.cell? ⟨w3.heap.size, 1, none⟩ = some (.int .i64 Y) := by rw [(bcell hbw6).1 _ _ (by first | (simp; done) | (simp; omega) | omega)]; simp [go_sem, World.cell?_alloc_past, *]
  have c6_9 : w6.cell? ⟨w3.heap.size + 1, 0, none⟩ = some (.int .i64 x) := by rw [(bcell hbw6).1 _ _ (by first | (simp; done) | (simp; omega) | omega)]; simp [go_sem, World.cell?_alloc_past, *]
  have c6_10 : w6.cell? ⟨w3.heap.size + 1, 1, none⟩ = some (.int .i64 y) := by rw [(bcell hbw6).1 _ _ (by first | (simp; done) | (simp; omega) | omega)]; simp [go_sem, World.cell?_alloc_past, *]
  have hB6 : Below w.heap.size w w6 := (by (repeat (first | (with_reducible refine Below.drew ?_) | (with_reducible refine below_drewN ?_ _) | (with_reducible refine Below.alloc ?_ (by first | omega | (simp; done) | (simp; omega) | (simp at *; omega)) _) | (with_reducible refine Below.setCell ?_ (by first | omega | (simp; done) | (simp; omega) | (simp at *; omega)) _) | (with_reducible exact Below.refl _ _) | (with_reducible assumption) | (with_reducible refine Below.trans ?_ (Below.mono (by assumption) (by first | omega | (simp; done) | (simp; omega) | (simp at *; omega)))))))
  clear c5_0 c5_1 c5_2 c5_3 c5_4 c5_5 c5_6 c5_7 c5_8 c5_9 c5_10 o5_0 n5_0 t5_0_1 t5_0_2 t5_0_3 t5_0_4 t5_0_5 t5_0_6 t5_0_7 o5_1 n5_1 t5_1_1 t5_1_2 t5_1_3 t5_1_4 t5_1_5 t5_1_6 t5_1_7 o5_2 n5_2 t5_2_1 t5_2_2 t5_2_3 t5_2_4 t5_2_5 t5_2_6 t5_2_7 o5_3 n5_3 t5_3_1 t5_3_2 t5_3_3 t5_3_4 t5_3_5 t5_3_6 t5_3_7 o5_4 n5_4 t5_4_1 t5_4_2 t5_4_3 t5_4_4 t5_4_5 t5_4_6 t5_4_7
  have o6_0 : w.heap.size < w6.heap.size := by omega
  have n6_0 : w6.heap.size ≠ w.heap.size := by omega
  have t6_0_1 : w.heap.size < w6.heap.size + 1 := by omega
  have t6_0_2 : w.heap.size < w6.heap.size + 1 + 1 := by omega
  have t6_0_3 : w.heap.size < w6.heap.size + 1 + 1 + 1 := by omega
  have t6_0_4 : w.heap.size < w6.heap.size + 1 + 1 + 1 + 1 := by omega
  have t6_0_5 : w.heap.size < w6.heap.size + 1 + 1 + 1 + 1 + 1 := by omega
  have t6_0_6 : w.heap.size < w6.heap.size + 1 + 1 + 1 + 1 + 1 + 1 := by omega
  have t6_0_7 : w.heap.size < w6.heap.size + 1 + 1 + 1 + 1 + 1 + 1 + 1 := by omega
  have o6_1 : w.heap.size + 1 < w6.heap.size := by omega
  have n6_1 : w6.heap.size ≠ w.heap.size + 1 := by omega
  have t6_1_1 : w.heap.size + 1 < w6.heap.size + 1 := by omega
  have t6_1_2 : w.heap.size + 1 < w6.heap.size + 1 + 1 := by omega
  have t6_1_3 : w.heap.size + 1 < w6.heap.size + 1 + 1 + 1 := by omega
  have t6_1_4 : w.heap.size + 1 < w6.heap.size + 1 + 1 + 1 + 1 := by omega
  have t6_1_5 : w.heap.size + 1 < w6.heap.size + 1 + 1 + 1 + 1 + 1 := by omega
  have t6_1_6 : w.heap.size + 1 < w6.heap.size + 1 + 1 + 1 + 1 + 1 + 1 := by omega
  have t6_1_7 : w.heap.size + 1 < w6.heap.size + 1 + 1 + 1 + 1 + 1 + 1 + 1 := by omega
  have o6_2 : w2.heap.size < w6.heap.size := by omega
  have n6_2 : w6.heap.size ≠ w2.heap.size := by omega
  have t6_2_1 : w2.heap.size < w6.heap.size + 1 := by omega
  have t6_2_2 : w2.heap.size < w6.heap.size + 1 + 1 := by omega
  have t6_2_3 : w2.heap.size < w6.heap.size + 1 + 1 + 1 := by omega
  have t6_2_4 : w2.heap.size < w6.heap.size + 1 + 1 + 1 + 1 := by omega
  have t6_2_5 : w2.heap.size < w6.heap.size + 1 + 1 + 1 + 1 + 1 := by omega
  have t6_2_6 : w2.heap.size < w6.heap.size + 1 + 1 + 1 + 1 + 1 + 1 := by omega
  have t6_2_7 : w2.heap.size < w6.heap.size + 1 + 1 + 1 + 1 + 1 + 1 + 1 := by omega
  have o6_3 : w3.heap.size < w6.heap.size := by omega
  have n6_3 : w6.heap.size ≠ w3.heap.size := by omega
  have t6_3_1 : w3.heap.size < w6.heap.size + 1 := by omega
  have t6_3_2 : w3.heap.size < w6.heap.size + 1 + 1 := by omega
  have t6_3_3 : w3.heap.size < w6.heap.size + 1 + 1 + 1 := by omega
  have t6_3_4 : w3.heap.size < w6.heap.size + 1 + 1 + 1 + 1 := by omega
  have t6_3_5 : w3.heap.size < w6.heap.size + 1 + 1 + 1 + 1 + 1 := by omega
  have t6_3_6 : w3.heap.size < w6.heap.size + 1 + 1 + 1 + 1 + 1 + 1 := by omega
  have t6_3_7 : w3.heap.size < w6.heap.size + 1 + 1 + 1 + 1 + 1 + 1 + 1 := by omega
  have o6_4 : w3.heap.size + 1 < w6.heap.size := by omega
  have n6_4 : w6.heap.size ≠ w3.heap.size + 1 := by omega
  have t6_4_1 : w3.heap.size + 1 < w6.heap.size + 1 := by omega
  have t6_4_2 : w3.heap.size + 1 < w6.heap.size + 1 + 1 := by omega
  have t6_4_3 : w3.heap.size + 1 < w6.heap.size + 1 + 1 + 1 := by omega
  have t6_4_4 : w3.heap.size + 1 < w6.heap.size + 1 + 1 + 1 + 1 := by omega
  have t6_4_5 : w3.heap.size + 1 < w6.heap.size + 1 + 1 + 1 + 1 + 1 := by omega
  have t6_4_6 : w3.heap.size + 1 < w6.heap.size + 1 + 1 + 1 + 1 + 1 + 1 := by omega
  have t6_4_7 : w3.heap.size + 1 < w6.heap.size + 1 + 1 + 1 + 1 + 1 + 1 + 1 := by omega
  have o6_5 : w5.heap.size < w6.heap.size := by omega
  have n6_5 : w6.heap.size ≠ w5.heap.size := by omega
  have t6_5_1 : w5.heap.size < w6.heap.size + 1 := by omega
  have t6_5_2 : w5.heap.size < w6.heap.size + 1 + 1 := by omega
  have t6_5_3 : w5.heap.size < w6.heap.size + 1 + 1 + 1 := by omega
  have t6_5_4 : w5.heap.size < w6.heap.size + 1 + 1 + 1 + 1 := by omega
  have t6_5_5 : w5.heap.size < w6.heap.size + 1 + 1 + 1 + 1 + 1 := by omega
  have t6_5_6 : w5.heap.size < w6.heap.size + 1 + 1 + 1 + 1 + 1 + 1 := by omega
  have t6_5_7 : w5.heap.size < w6.heap.size + 1 + 1 + 1 + 1 + 1 + 1 + 1 := by omega
  have b6 : w.heap.size ≤ w6.heap.size := by omega
  clear hbw6
  by_cases f8 : Y < y
  · go_wp2
    go_ret
    exact ⟨rfl, (by (repeat (first | (with_reducible refine Below.drew ?_) | (with_reducible refine below_drewN ?_ _) | (with_reducible refine Below.alloc ?_ (by first | omega | (simp; done) | (simp; omega) | (simp at *; omega)) _) | (with_reducible refine Below.setCell ?_ (by first | omega | (simp; done) | (simp; omega) | (simp at *; omega)) _) | (with_reducible exact Below.refl _ _) | (with_reducible assumption) | (with_reducible refine Below.trans ?_ (Below.mono (by assumption) (by first | omega | (simp; done) | (simp; omega) | (simp at *; omega)))))))⟩
  · have f9 : (y == Y) = true := by simp; omega
    go_wp2
    go_ret
    exact ⟨rfl, (by (repeat (first | (with_reducible refine Below.drew ?_) | (with_reducible refine below_drewN ?_ _) | (with_reducible refine Below.alloc ?_ (by first | omega | (simp; done) | (simp; omega) | (simp at *; omega)) _) | (with_reducible refine Below.setCell ?_ (by first | omega | (simp; done) | (simp; omega) | (simp at *; omega)) _) | (with_reducible exact Below.refl _ _) | (with_reducible assumption) | (with_reducible refine Below.trans ?_ (Below.mono (by assumption) (by first | omega | (simp; done) | (simp; omega) | (simp at *; omega)))))))⟩
theorem gasBetter_any (s d a b n x y : Int) (w : World) (m : Int) (hm : w.cell? ⟨1, 0, none⟩ = some (.int .i64 m)) :
    Calls Tryd.prog 10 #[.agg #[.int .i64 s, .int .i64 d, .int .i64 a, .int .i64 b, .int .i64 n], .agg #[.int .i64 x, .int .i64 y]] w fun e w' => e = .returned (.bool true) ∧ Below w.heap.size w w' := by
  rcases ez (aimE s d a b n) with ⟨hz, hb⟩ | ⟨hz, hb⟩
  · rcases ez (gasE x y) with ⟨hg, hgb⟩ | ⟨hg, hgb⟩
    · obtain ⟨⟨k1, k2⟩, ⟨k9, k10⟩, ⟨k5, k6, k7, k8, _⟩, k3, k4⟩ := aimE_z hz.out
      obtain ⟨g1, g2, g3, g4, g5⟩ := gasE_z hg.out
      have p0 : 0 < s + d := by omega
      have p1 : 0 ≤ s + n := by omega
      cases hm0 : metB x y s a b n (s + d)
      · cases hM : metB (bestOx s (s + d) n b) (bestHe s (s + d) n) s a b n (s + d)
        · exact tlaw_n0 s d a b n x y w m hm hz hg k1 k2 k3 k4 k5 k6 k7 k8 k9 k10 g1 g2 g3 g4 hm0 hM
        · exact tlaw_n1 s d a b n x y w m hm hz hg k1 k2 k3 k4 k5 k6 k7 k8 k9 k10 g1 g2 g3 g4 hm0 _ _ hM rfl rfl
      · obtain ⟨b1, b2, b3⟩ := best_all p0 p1 (by omega) g3 g5 hm0
        obtain ⟨q1, q2, q3⟩ := bestOx_bd (b := b) p0 p1 (by omega)
        obtain ⟨e1, e2⟩ := bestHe_bd p0 p1
        refine tlaw_k s d a b n x y w m hm hz hg k1 k2 k3 k4 k5 k6 k7 k8 k9 k10 g1 g2 g3 g4 hm0 _ _ b3 rfl rfl ?_ ?_ ?_ ?_ ?_ ?_ ?_ ?_
        · rw [if_pos rfl, if_pos rfl]; exact b3
        · rw [if_pos rfl]; exact b1
        · rw [if_pos rfl]; exact b2
        · rw [if_pos rfl]; exact q1
        · rw [if_pos rfl]; omega
        · rw [if_pos rfl]; exact e1
        · rw [if_pos rfl]; exact e2
        · rw [if_pos rfl, if_pos rfl]
          show gasE _ _ = 0
          unfold gasE
          rw [if_pos ⟨inB_true q1 (by omega), inB_true e1 e2⟩, if_pos (by omega)]
    · exact tlaw_g s d a b n x y w m hm _ hz rfl hgb
  · exact tlaw_p s d a b n x y w m hm _ rfl hb
end Go.Proofs.YtebieflnlmdllaaDoor
