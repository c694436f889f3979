import Derived.Test.YtojaompfffpofaaGreatZASRun2
import Derived.Test.YtojaompfffpofaaGreatZASCht
import Derived.Outline
namespace Go.Proofs.YtojaompfffpofaaGreat
open Go.ChangeShapes Go.WideShapes Go.ChangeAt Go.RowKit
set_option linter.unusedVariables false
set_option linter.unusedSimpArgs false
attribute [local go_sem ↓] Go.wp_at_zero Go.wp_at_succ
set_option maxRecDepth 100000 in
set_option maxHeartbeats 4000000 in
theorem stop_bad (A B : Option Addr) (n ca cb qb qo sb so l cq cs k : Nat) (bg p sv F E : Int) (w : World) (hl : n ≤ 12) (hkl : k < l) (hl12 : l ≤ 12) (hF : Hid (plcE n p = F)) (hE : Hid (firE [F, rngE sv 0 10000] = E)) (hz : (E != 0) = true) (lq : qb < w.heap.size) (lsb : sb < w.heap.size) (d0 : w.cell? ⟨qb, qo + k, none⟩ = some (.int .i64 p)) (d1 : w.cell? ⟨sb, so + k, none⟩ = some (.int .i64 sv)) :
    Calls Tryz.prog 132 #[.agg #[.slice A n ca, .slice B n cb], .agg #[.int .i64 bg, .slice (some ⟨qb, qo, none⟩) l cq, .slice (some ⟨sb, so, none⟩) l cs], .int .i64 k] w fun e w' => e = .returned (.int .i64 E) ∧ Below w.heap.size w w' := by
  have kn : (k : Int) < (l : Int) := by omega
  have x2 : qb ≠ w.heap.size := by omega
  have x3 : sb ≠ w.heap.size := by omega
  have x5 : qb < w.heap.size + 1 := by omega
  have x6 : sb < w.heap.size + 1 := by omega
  go_enter Tryz.func132, Tryz.ntmps132
  go_upto_region 1 with (fail)
  refine wp_region_held_drew (S := (fun w' => w'.cell? ⟨w.heap.size, 0, none⟩ = some (.slice A n ca) ∧ w'.cell? ⟨w.heap.size, 1, none⟩ = some (.slice B n cb) ∧ w'.cell? ⟨w.heap.size + 1, 1, none⟩ = some (.slice (some ⟨qb, qo, none⟩) l cq) ∧ w'.cell? ⟨w.heap.size + 1, 2, none⟩ = some (.slice (some ⟨sb, so, none⟩) l cs) ∧ w'.cell? ⟨qb, qo + k, none⟩ = some (.int .i64 p) ∧ w'.cell? ⟨sb, so + k, none⟩ = some (.int .i64 sv))) (by kernel_rfl) (by simp [go_sem, World.cell?_alloc_past, *]) (fun hHeld => ?_)
  refine tkH 0 ⟨some 8, _, _, _, _, _⟩ ?_ rfl ?_ (by assumption) ?_
  rotate_left
  · (intro w hSw; (try dsimp only at hSw); go_simp; all_goals with_reducible rfl)
  try simp only [Act.put, sA, sB, sC]
  refine tkH 1 ⟨some 9, _, _, _, _, _⟩ ?_ rfl ?_ (by assumption) ?_
  rotate_left
  · (intro w hSw; (try dsimp only at hSw); go_simp; all_goals with_reducible rfl)
  try simp only [Act.put, sA, sB, sC]
  refine tkH 2 ⟨some 10, _, _, _, _, _⟩ ?_ rfl ?_ (by assumption) ?_
  rotate_left
  · (intro w hSw; (try dsimp only at hSw); go_simp; all_goals with_reducible rfl)
  try simp only [Act.put, sA, sB, sC]
  refine tkH 3 ⟨some 11, _, _, _, _, _⟩ ?_ rfl ?_ (by assumption) ?_
  rotate_left
  · (intro w hSw; (try dsimp only at hSw); go_simp; all_goals with_reducible rfl)
  try simp only [Act.put, sA, sB, sC]
  refine tkH 4 ⟨some 12, _, _, _, _, _⟩ ?_ rfl ?_ (by assumption) ?_
  rotate_left
  · (intro w hSw; (try dsimp only at hSw); go_simp; all_goals with_reducible rfl)
  try simp only [Act.put, sA, sB, sC]
  refine tkH 5 ⟨some 13, _, _, _, _, _⟩ ?_ rfl ?_ (by assumption) ?_
  rotate_left
  · (intro w hSw; (try dsimp only at hSw); go_simp; all_goals with_reducible rfl)
  try simp only [Act.put, sA, sB, sC]
  refine tkH 7 ⟨some 15, _, _, _, _, _⟩ ?_ rfl ?_ (by assumption) ?_
  rotate_left
  · (intro w hSw; (try dsimp only at hSw); go_simp; all_goals with_reducible rfl)
  try simp only [Act.put, sA, sB, sC]
  refine tkH 8 ⟨some 16, _, _, _, _, _⟩ ?_ rfl ?_ (by assumption) ?_
  rotate_left
  · (intro w hSw; (try dsimp only at hSw); go_simp; all_goals with_reducible rfl)
  try simp only [Act.put, sA, sB, sC]
  refine tkH 9 ⟨some 17, _, _, _, _, _⟩ ?_ rfl ?_ (by assumption) ?_
  rotate_left
  · (intro w hSw; (try dsimp only at hSw); go_simp; all_goals with_reducible rfl)
  try simp only [Act.put, sA, sB, sC]
  refine tkH 10 ⟨some 18, _, _, _, _, _⟩ ?_ rfl ?_ (by assumption) ?_
  rotate_left
  · (intro w hSw; (try dsimp only at hSw); go_simp; all_goals with_reducible rfl)
  try simp only [Act.put, sA, sB, sC]
  refine tkH 11 ⟨some 19, _, _, _, _, _⟩ ?_ rfl ?_ (by assumption) ?_
  rotate_left
  · (intro w hSw; (try dsimp only at hSw); go_simp; all_goals with_reducible rfl)
  try simp only [Act.put, sA, sB, sC]
  refine wpAnyH_ready (rs := [6]) (by kernel_rfl) (by simp) ?_
  refine AllReadyH.cons rfl (fun K hK => ?_) AllReadyH.nil
  go_simp
  refine (place_is A B n ca cb p F _ (by omega) hF).mono ?_
  rintro e y2 ⟨rfl, hb2⟩
  have z2 := hb2.size
  try simp at z2
  have q2_0 : y2.cell? ⟨w.heap.size, 0, none⟩ = some (.slice A n ca) := by rw [(bcell hb2).1 _ _ (by first | (simp; done) | (simp; omega) | omega)]; simp [go_sem, *]
  have q2_1 : y2.cell? ⟨w.heap.size, 1, none⟩ = some (.slice B n cb) := by rw [(bcell hb2).1 _ _ (by first | (simp; done) | (simp; omega) | omega)]; simp [go_sem, *]
  have q2_2 : y2.cell? ⟨w.heap.size + 1, 1, none⟩ = some (.slice (some ⟨qb, qo, none⟩) l cq) := by rw [(bcell hb2).1 _ _ (by first | (simp; done) | (simp; omega) | omega)]; simp [go_sem, *]
  have q2_3 : y2.cell? ⟨w.heap.size + 1, 2, none⟩ = some (.slice (some ⟨sb, so, none⟩) l cs) := by rw [(bcell hb2).1 _ _ (by first | (simp; done) | (simp; omega) | omega)]; simp [go_sem, *]
  have q2_4 : y2.cell? ⟨qb, qo + k, none⟩ = some (.int .i64 p) := by rw [(bcell hb2).1 _ _ (by first | (simp; done) | (simp; omega) | omega)]; simp [go_sem, *]
  have q2_5 : y2.cell? ⟨sb, so + k, none⟩ = some (.int .i64 sv) := by rw [(bcell hb2).1 _ _ (by first | (simp; done) | (simp; omega) | omega)]; simp [go_sem, *]
  have hB2 : Below w.heap.size w y2 := (by (repeat (first | (with_reducible refine Below.drew ?_) | (with_reducible refine below_drewN ?_ _) | (with_reducible refine Below.alloc ?_ (by first | omega | (simp; done) | (simp; omega) | (simp at *; omega)) _) | (with_reducible refine Below.setCell ?_ (by first | omega | (simp; done) | (simp; omega) | (simp at *; omega)) _) | (with_reducible exact Below.refl _ _) | (with_reducible assumption) | (with_reducible refine Below.trans ?_ (Below.mono (by assumption) (by first | omega | (simp; done) | (simp; omega) | (simp at *; omega)))))))
  have o2_0 : w.heap.size < y2.heap.size := by omega
  have m2_0 : y2.heap.size ≠ w.heap.size := by omega
  have o2_1 : w.heap.size + 1 < y2.heap.size := by omega
  have m2_1 : y2.heap.size ≠ w.heap.size + 1 := by omega
  have o2_2 : qb < y2.heap.size := by omega
  have m2_2 : y2.heap.size ≠ qb := by omega
  have o2_3 : sb < y2.heap.size := by omega
  have m2_3 : y2.heap.size ≠ sb := by omega
  clear hb2
  go_wp2_with fail
  refine hK.out _ _ (by simp [go_sem, World.cell?_alloc_past, *]) (fun hHeld => ?_)
  clear hK K
  try simp only [Act.put, sA, sB, sC]
  refine wpAnyH_ready (rs := [12]) (by kernel_rfl) (by simp) ?_
  refine AllReadyH.cons rfl (fun K hK => ?_) AllReadyH.nil
  go_simp
  refine (cRange_any _ _ _ _).mono ?_
  rintro e w' ⟨rfl, rfl⟩
  go_wp2_with fail
  refine hK.out _ _ (by simp [go_sem, World.cell?_alloc_past, *]) (fun hHeld => ?_)
  clear hK K
  try simp only [Act.put, sA, sB, sC]
  refine wpAnyH_ready (rs := [13]) (by kernel_rfl) (by simp) ?_
  refine AllReadyH.cons rfl (fun K hK => ?_) AllReadyH.nil
  go_simp
  go_wp2_with fail
  refine hK.out _ _ (by simp [go_sem, World.cell?_alloc_past, *]) (fun hHeld => ?_)
  clear hK K
  try simp only [Act.put, sA, sB, sC]
  refine wpAnyH_ready (rs := [14]) (by kernel_rfl) (by simp) ?_
  refine AllReadyH.cons rfl (fun K hK => ?_) AllReadyH.nil
  go_simp
  refine (cF2x F (rngE sv 0 10000) E _ _ hE (by simp [go_sem]) (by simp [go_sem])).mono ?_
  rintro e w' ⟨rfl, rfl⟩
  go_wp2_with fail
  refine hK.out _ _ (by simp [go_sem, World.cell?_alloc_past, *]) (fun hHeld => ?_)
  clear hK K
  try simp only [Act.put, sA, sB, sC]
  refine tkH 15 ⟨some 7, _, _, _, _, _⟩ ?_ rfl ?_ (by assumption) ?_
  rotate_left
  · (intro w hSw; (try dsimp only at hSw); go_simp; all_goals with_reducible rfl)
  try simp only [Act.put, sA, sB, sC]
  refine wpAnyH_done (by kernel_rfl) ?_ _
  go_wp2
  go_ret
  exact ⟨rfl, (by (repeat (first | (with_reducible refine Below.drew ?_) | (with_reducible refine below_drewN ?_ _) | (with_reducible refine Below.alloc ?_ (by first | omega | (simp; done) | (simp; omega) | (simp at *; omega)) _) | (with_reducible refine Below.setCell ?_ (by first | omega | (simp; done) | (simp; omega) | (simp at *; omega)) _) | (with_reducible exact Below.refl _ _) | (with_reducible assumption) | (with_reducible refine Below.trans ?_ (Below.mono (by assumption) (by first | omega | (simp; done) | (simp; omega) | (simp at *; omega)))))))⟩
set_option maxRecDepth 100000 in
set_option maxHeartbeats 1000000 in
theorem stop_gap (A : Option Addr) (n ca cb mb mo qb qo sb so l cq cs p p' rb ro cr k : Nat) (bg sv : Int) (w : World) (hl : n ≤ 12) (hl12 : l ≤ 12) (hk0 : 0 < k) (hkl : k < l) (hp : p < n) (hp' : p' < n) (s0 : 0 ≤ sv) (s1 : sv ≤ 10000) (lm : mb < w.heap.size) (lq : qb < w.heap.size) (lsb : sb < w.heap.size) (lr : rb < w.heap.size) (d0 : w.cell? ⟨qb, qo + k, none⟩ = some (.int .i64 p)) (d1 : w.cell? ⟨sb, so + k, none⟩ = some (.int .i64 sv)) (d2 : w.cell? ⟨qb, qo + (k - 1), none⟩ = some (.int .i64 p')) (d3 : w.cell? ⟨mb, mo + p', none⟩ = some (.slice (some ⟨rb, ro, none⟩) n cr)) (d4 : w.cell? ⟨rb, ro + p, none⟩ = some (.int .i64 (-1))) :
    Calls Tryz.prog 132 #[.agg #[.slice A n ca, .slice (some ⟨mb, mo, none⟩) n cb], .agg #[.int .i64 bg, .slice (some ⟨qb, qo, none⟩) l cq, .slice (some ⟨sb, so, none⟩) l cs], .int .i64 k] w fun e w' => e = .returned (.int .i64 14) ∧ Below w.heap.size w w' := by
  have pn : (p : Int) < (n : Int) := by omega
  have pn' : (p' : Int) < (n : Int) := by omega
  have kn : (k : Int) < (l : Int) := by omega
  have kp : (0 : Int) < (k : Int) := by omega
  have hr : rngE sv 0 10000 = 0 := rngE_t (inB_true s0 s1)
  have w2 : IntKind.i64.wrap ((k : Int) - 1) = (k : Int) - 1 := IntWalk.i64_in _ (by omega)
  have j2 : (0 : Int) ≤ (k : Int) - 1 := by omega
  have j2' : (1 : Int) ≤ (k : Int) := by omega
  have j3 : ((k : Int) - 1).toNat = k - 1 := by omega
  have j4 : (k : Int) - 1 < (l : Int) := by omega
  have nm2 : decide (0 < (k : Int)) = true := by simpa using hk0
  have x1 : mb ≠ w.heap.size := by omega
  have x2 : qb ≠ w.heap.size := by omega
  have x3 : sb ≠ w.heap.size := by omega
  have x7 : rb ≠ w.heap.size := by omega
  have x4 : mb < w.heap.size + 1 := by omega
  have x5 : qb < w.heap.size + 1 := by omega
  have x6 : sb < w.heap.size + 1 := by omega
  have x8 : rb < w.heap.size + 1 := by omega
  go_enter Tryz.func132, Tryz.ntmps132
  go_upto_region 1 with (fail)
  refine wp_region_held_drew (S := (fun w' => w'.cell? ⟨w.heap.size, 0, none⟩ = some (.slice A n ca) ∧ w'.cell? ⟨w.heap.size, 1, none⟩ = some (.slice (some ⟨mb, mo, none⟩) n cb) ∧ w'.cell? ⟨w.heap.size + 1, 0, none⟩ = some (.int .i64 bg) ∧ w'.cell? ⟨w.heap.size + 1, 1, none⟩ = some (.slice (some ⟨qb, qo, none⟩) l cq) ∧ w'.cell? ⟨w.heap.size + 1, 2, none⟩ = some (.slice (some ⟨sb, so, none⟩) l cs) ∧ w'.cell? ⟨qb, qo + k, none⟩ = some (.int .i64 p) ∧ w'.cell? ⟨sb, so + k, none⟩ = some (.int .i64 sv) ∧ w'.cell? ⟨qb, qo + (k - 1), none⟩ = some (.int .i64 p') ∧ w'.cell? ⟨mb, mo + p', none⟩ = some (.slice (some ⟨rb, ro, none⟩) n cr) ∧ w'.cell? ⟨rb, ro + p, none⟩ = some (.int .i64 (-1)))) (by kernel_rfl) (by simp [go_sem, World.cell?_alloc_past, *]) (fun hHeld => ?_)
  refine tkH 0 ⟨some 8, _, _, _, _, _⟩ ?_ rfl ?_ (by assumption) ?_
  rotate_left
  · (intro w hSw; (try dsimp only at hSw); go_simp; all_goals with_reducible rfl)
  try simp only [Act.put, sA, sB, sC]
  refine tkH 1 ⟨some 9, _, _, _, _, _⟩ ?_ rfl ?_ (by assumption) ?_
  rotate_left
  · (intro w hSw; (try dsimp only at hSw); go_simp; all_goals with_reducible rfl)
  try simp only [Act.put, sA, sB, sC]
  refine tkH 2 ⟨some 10, _, _, _, _, _⟩ ?_ rfl ?_ (by assumption) ?_
  rotate_left
  · (intro w hSw; (try dsimp only at hSw); go_simp; all_goals with_reducible rfl)
  try simp only [Act.put, sA, sB, sC]
  refine tkH 3 ⟨some 11, _, _, _, _, _⟩ ?_ rfl ?_ (by assumption) ?_
  rotate_left
  · (intro w hSw; (try dsimp only at hSw); go_simp; all_goals with_reducible rfl)
  try simp only [Act.put, sA, sB, sC]
  refine tkH 4 ⟨some 12, _, _, _, _, _⟩ ?_ rfl ?_ (by assumption) ?_
  rotate_left
  · (intro w hSw; (try dsimp only at hSw); go_simp; all_goals with_reducible rfl)
  try simp only [Act.put, sA, sB, sC]
  refine tkH 5 ⟨some 13, _, _, _, _, _⟩ ?_ rfl ?_ (by assumption) ?_
  rotate_left
  · (intro w hSw; (try dsimp only at hSw); go_simp; all_goals with_reducible rfl)
  try simp only [Act.put, sA, sB, sC]
  refine tkH 7 ⟨some 15, _, _, _, _, _⟩ ?_ rfl ?_ (by assumption) ?_
  rotate_left
  · (intro w hSw; (try dsimp only at hSw); go_simp; all_goals with_reducible rfl)
  try simp only [Act.put, sA, sB, sC]
  refine tkH 8 ⟨some 16, _, _, _, _, _⟩ ?_ rfl ?_ (by assumption) ?_
  rotate_left
  · (intro w hSw; (try dsimp only at hSw); go_simp; all_goals with_reducible rfl)
  try simp only [Act.put, sA, sB, sC]
  refine tkH 9 ⟨some 17, _, _, _, _, _⟩ ?_ rfl ?_ (by assumption) ?_
  rotate_left
  · (intro w hSw; (try dsimp only at hSw); go_simp; all_goals with_reducible rfl)
  try simp only [Act.put, sA, sB, sC]
  refine tkH 10 ⟨some 18, _, _, _, _, _⟩ ?_ rfl ?_ (by assumption) ?_
  rotate_left
  · (intro w hSw; (try dsimp only at hSw); go_simp; all_goals with_reducible rfl)
  try simp only [Act.put, sA, sB, sC]
  refine tkH 11 ⟨some 19, _, _, _, _, _⟩ ?_ rfl ?_ (by assumption) ?_
  rotate_left
  · (intro w hSw; (try dsimp only at hSw); go_simp; all_goals with_reducible rfl)
  try simp only [Act.put, sA, sB, sC]
  refine wpAnyH_ready (rs := [6]) (by kernel_rfl) (by simp) ?_
  refine AllReadyH.cons rfl (fun K hK => ?_) AllReadyH.nil
  go_simp
  refine (place_is A (some ⟨mb, mo, none⟩) n ca cb p 0 _ (by omega) (Lib.hid (plcE_in (by omega) (by omega)))).mono ?_
  rintro e y2 ⟨rfl, hb2⟩
  have z2 := hb2.size
  try simp at z2
  have q2_0 : y2.cell? ⟨w.heap.size, 0, none⟩ = some (.slice A n ca) := by rw [(bcell hb2).1 _ _ (by first | (simp; done) | (simp; omega) | omega)]; simp [go_sem, *]
  have q2_1 : y2.cell? ⟨w.heap.size, 1, none⟩ = some (.slice (some ⟨mb, mo, none⟩) n cb) := by rw [(bcell hb2).1 _ _ (by first | (simp; done) | (simp; omega) | omega)]; simp [go_sem, *]
  have q2_2 : y2.cell? ⟨w.heap.size + 1, 0, none⟩ = some (.int .i64 bg) := by rw [(bcell hb2).1 _ _ (by first | (simp; done) | (simp; omega) | omega)]; simp [go_sem, *]
  have q2_3 : y2.cell? ⟨w.heap.size + 1, 1, none⟩ = some (.slice (some ⟨qb, qo, none⟩) l cq) := by rw [(bcell hb2).1 _ _ (by first | (simp; done) | (simp; omega) | omega)]; simp [go_sem, *]
  have q2_4 : y2.cell? ⟨w.heap.size + 1, 2, none⟩ = some (.slice (some ⟨sb, so, none⟩) l cs) := by rw [(bcell hb2).1 _ _ (by first | (simp; done) | (simp; omega) | omega)]; simp [go_sem, *]
  have q2_5 : y2.cell? ⟨qb, qo + k, none⟩ = some (.int .i64 p) := by rw [(bcell hb2).1 _ _ (by first | (simp; done) | (simp; omega) | omega)]; simp [go_sem, *]
  have q2_6 : y2.cell? ⟨sb, so + k, none⟩ = some (.int .i64 sv) := by rw [(bcell hb2).1 _ _ (by first | (simp; done) | (simp; omega) | omega)]; simp [go_sem, *]
  have q2_7 : y2.cell? ⟨qb, qo + (k - 1), none⟩ = some (.int .i64 p') := by rw [(bcell hb2).1 _ _ (by first | (simp; done) | (simp; omega) | omega)]; simp [go_sem, *]
  have q2_8 : y2.cell? ⟨mb, mo + p', none⟩ = some (.slice (some ⟨rb, ro, none⟩) n cr) := by rw [(bcell hb2).1 _ _ (by first | (simp; done) | (simp; omega) | omega)]; simp [go_sem, *]
  have q2_9 : y2.cell? ⟨rb, ro + p, none⟩ = some (.int .i64 (-1)) := by rw [(bcell hb2).1 _ _ (by first | (simp; done) | (simp; omega) | omega)]; simp [go_sem, *]
  have hB2 : Below w.heap.size w y2 := (by (repeat (first | (with_reducible refine Below.drew ?_) | (with_reducible refine below_drewN ?_ _) | (with_reducible refine Below.alloc ?_ (by first | omega | (simp; done) | (simp; omega) | (simp at *; omega)) _) | (with_reducible refine Below.setCell ?_ (by first | omega | (simp; done) | (simp; omega) | (simp at *; omega)) _) | (with_reducible exact Below.refl _ _) | (with_reducible assumption) | (with_reducible refine Below.trans ?_ (Below.mono (by assumption) (by first | omega | (simp; done) | (simp; omega) | (simp at *; omega)))))))
  have o2_0 : w.heap.size < y2.heap.size := by omega
  have m2_0 : y2.heap.size ≠ w.heap.size := by omega
  have o2_1 : w.heap.size + 1 < y2.heap.size := by omega
  have m2_1 : y2.heap.size ≠ w.heap.size + 1 := by omega
  have o2_2 : mb < y2.heap.size := by omega
  have m2_2 : y2.heap.size ≠ mb := by omega
  have o2_3 : qb < y2.heap.size := by omega
  have m2_3 : y2.heap.size ≠ qb := by omega
  have o2_4 : sb < y2.heap.size := by omega
  have m2_4 : y2.heap.size ≠ sb := by omega
  have o2_5 : rb < y2.heap.size := by omega
  have m2_5 : y2.heap.size ≠ rb := by omega
  clear hb2 
  go_wp2_with fail
  refine hK.out _ _ (by simp [go_sem, World.cell?_alloc_past, *]) (fun hHeld => ?_)
  clear hK K
  try simp only [Act.put, sA, sB, sC]
  refine wpAnyH_ready (rs := [12]) (by kernel_rfl) (by simp) ?_
  refine AllReadyH.cons rfl (fun K hK => ?_) AllReadyH.nil
  go_simp
  refine (cRange_any _ _ _ _).mono ?_
  rintro e w' ⟨rfl, rfl⟩
  go_wp2_with fail
  refine hK.out _ _ (by simp [go_sem, World.cell?_alloc_past, *]) (fun hHeld => ?_)
  clear hK K
  try simp only [Act.put, sA, sB, sC]
  refine wpAnyH_ready (rs := [13]) (by kernel_rfl) (by simp) ?_
  refine AllReadyH.cons rfl (fun K hK => ?_) AllReadyH.nil
  go_simp
  go_wp2_with fail
  refine hK.out _ _ (by simp [go_sem, World.cell?_alloc_past, *]) (fun hHeld => ?_)
  clear hK K
  try simp only [Act.put, sA, sB, sC]
  refine wpAnyH_ready (rs := [14]) (by kernel_rfl) (by simp) ?_
  refine AllReadyH.cons rfl (fun K hK => ?_) AllReadyH.nil
  go_simp
  refine (cF2x 0 0 0 _ _ (Lib.hid rfl) (by simp [go_sem]) (by simp [go_sem])).mono ?_
  rintro e w' ⟨rfl, rfl⟩
  go_wp2_with fail
  refine hK.out _ _ (by simp [go_sem, World.cell?_alloc_past, *]) (fun hHeld => ?_)
  clear hK K
  try simp only [Act.put, sA, sB, sC]
  refine tkH 15 ⟨some 7, _, _, _, _, _⟩ ?_ rfl ?_ (by assumption) ?_
  rotate_left
  · (intro w hSw; (try dsimp only at hSw); go_simp; all_goals with_reducible rfl)
  try simp only [Act.put, sA, sB, sC]
  refine wpAnyH_done (by kernel_rfl) ?_ _
  go_upto_region 4 with (fail)
  refine wp_region_held_drew (S := (fun w' => w'.cell? ⟨w.heap.size, 0, none⟩ = some (.slice A n ca) ∧ w'.cell? ⟨w.heap.size, 1, none⟩ = some (.slice (some ⟨mb, mo, none⟩) n cb) ∧ w'.cell? ⟨w.heap.size + 1, 0, none⟩ = some (.int .i64 bg) ∧ w'.cell? ⟨w.heap.size + 1, 1, none⟩ = some (.slice (some ⟨qb, qo, none⟩) l cq) ∧ w'.cell? ⟨w.heap.size + 1, 2, none⟩ = some (.slice (some ⟨sb, so, none⟩) l cs) ∧ w'.cell? ⟨qb, qo + k, none⟩ = some (.int .i64 p) ∧ w'.cell? ⟨sb, so + k, none⟩ = some (.int .i64 sv) ∧ w'.cell? ⟨qb, qo + (k - 1), none⟩ = some (.int .i64 p') ∧ w'.cell? ⟨mb, mo + p', none⟩ = some (.slice (some ⟨rb, ro, none⟩) n cr) ∧ w'.cell? ⟨rb, ro + p, none⟩ = some (.int .i64 (-1)))) (by kernel_rfl) (by simp [go_sem, World.cell?_alloc_past, *]) (fun hHeld => ?_)
  refine tkH 0 ⟨some 26, _, _, _, _, _⟩ ?_ rfl ?_ (by assumption) ?_
  rotate_left
  · (intro w hSw; (try dsimp only at hSw); go_simp; all_goals with_reducible rfl)
  try simp only [Act.put, sA, sB, sC]
  refine tkH 1 ⟨some 27, _, _, _, _, _⟩ ?_ rfl ?_ (by assumption) ?_
  rotate_left
  · (intro w hSw; (try dsimp only at hSw); go_simp; all_goals with_reducible rfl)
  try simp only [Act.put, sA, sB, sC]
  refine tkH 2 ⟨some 28, _, _, _, _, _⟩ ?_ rfl ?_ (by assumption) ?_
  rotate_left
  · (intro w hSw; (try dsimp only at hSw); go_simp; all_goals with_reducible rfl)
  try simp only [Act.put, sA, sB, sC]
  refine tkH 3 ⟨some 29, _, _, _, _, _⟩ ?_ rfl ?_ (by assumption) ?_
  rotate_left
  · (intro w hSw; (try dsimp only at hSw); go_simp; all_goals with_reducible rfl)
  try simp only [Act.put, sA, sB, sC]
  refine tkH 4 ⟨some 30, _, _, _, _, _⟩ ?_ rfl ?_ (by assumption) ?_
  rotate_left
  · (intro w hSw; (try dsimp only at hSw); go_simp; all_goals with_reducible rfl)
  try simp only [Act.put, sA, sB, sC]
  refine tkH 5 ⟨some 31, _, _, _, _, _⟩ ?_ rfl ?_ (by assumption) ?_
  rotate_left
  · (intro w hSw; (try dsimp only at hSw); go_simp; all_goals with_reducible rfl)
  try simp only [Act.put, sA, sB, sC]
  refine tkH 6 ⟨some 32, _, _, _, _, _⟩ ?_ rfl ?_ (by assumption) ?_
  rotate_left
  · (intro w hSw; (try dsimp only at hSw); go_simp; all_goals with_reducible rfl)
  try simp only [Act.put, sA, sB, sC]
  refine tkH 7 ⟨some 33, _, _, _, _, _⟩ ?_ rfl ?_ (by assumption) ?_
  rotate_left
  · (intro w hSw; (try dsimp only at hSw); go_simp; all_goals with_reducible rfl)
  try simp only [Act.put, sA, sB, sC]
  refine tkH 8 ⟨some 34, _, _, _, _, _⟩ ?_ rfl ?_ (by assumption) ?_
  rotate_left
  · (intro w hSw; (try dsimp only at hSw); go_simp; all_goals with_reducible rfl)
  try simp only [Act.put, sA, sB, sC]
  refine tkH 9 ⟨some 35, _, _, _, _, _⟩ ?_ rfl ?_ (by assumption) ?_
  rotate_left
  · (intro w hSw; (try dsimp only at hSw); go_simp; all_goals with_reducible rfl)
  try simp only [Act.put, sA, sB, sC]
  refine tkH 10 ⟨some 36, _, _, _, _, _⟩ ?_ rfl ?_ (by assumption) ?_
  rotate_left
  · (intro w hSw; (try dsimp only at hSw); go_simp; all_goals with_reducible rfl)
  try simp only [Act.put, sA, sB, sC]
  refine tkH 11 ⟨some 37, _, _, _, _, _⟩ ?_ rfl ?_ (by assumption) ?_
  rotate_left
  · (intro w hSw; (try dsimp only at hSw); go_simp; all_goals with_reducible rfl)
  try simp only [Act.put, sA, sB, sC]
  refine tkH 12 ⟨some 38, _, _, _, _, _⟩ ?_ rfl ?_ (by assumption) ?_
  rotate_left
  · (intro w hSw; (try dsimp only at hSw); go_simp; all_goals with_reducible rfl)
  try simp only [Act.put, sA, sB, sC]
  refine tkH 13 ⟨some 39, _, _, _, _, _⟩ ?_ rfl ?_ (by assumption) ?_
  rotate_left
  · (intro w hSw; (try dsimp only at hSw); go_simp; all_goals with_reducible rfl)
  try simp only [Act.put, sA, sB, sC]
  refine tkH 14 ⟨some 40, _, _, _, _, _⟩ ?_ rfl ?_ (by assumption) ?_
  rotate_left
  · (intro w hSw; (try dsimp only at hSw); go_simp; all_goals with_reducible rfl)
  try simp only [Act.put, sA, sB, sC]
  refine tkH 15 ⟨some 41, _, _, _, _, _⟩ ?_ rfl ?_ (by assumption) ?_
  rotate_left
  · (intro w hSw; (try dsimp only at hSw); go_simp; all_goals with_reducible rfl)
  try simp only [Act.put, sA, sB, sC]
  refine tkH 16 ⟨some 42, _, _, _, _, _⟩ ?_ rfl ?_ (by assumption) ?_
  rotate_left
  · (intro w hSw; (try dsimp only at hSw); go_simp; all_goals with_reducible rfl)
  try simp only [Act.put, sA, sB, sC]
  refine tkH 17 ⟨some 43, _, _, _, _, _⟩ ?_ rfl ?_ (by assumption) ?_
  rotate_left
  · (intro w hSw; (try dsimp only at hSw); go_simp; all_goals with_reducible rfl)
  try simp only [Act.put, sA, sB, sC]
  refine tkH 18 ⟨some 44, _, _, _, _, _⟩ ?_ rfl ?_ (by assumption) ?_
  rotate_left
  · (intro w hSw; (try dsimp only at hSw); go_simp; all_goals with_reducible rfl)
  try simp only [Act.put, sA, sB, sC]
  refine tkH 19 ⟨some 45, _, _, _, _, _⟩ ?_ rfl ?_ (by assumption) ?_
  rotate_left
  · (intro w hSw; (try dsimp only at hSw); go_simp; all_goals with_reducible rfl)
  try simp only [Act.put, sA, sB, sC]
  refine tkH 20 ⟨some 46, _, _, _, _, _⟩ ?_ rfl ?_ (by assumption) ?_
  rotate_left
  · (intro w hSw; (try dsimp only at hSw); go_simp; all_goals with_reducible rfl)
  try simp only [Act.put, sA, sB, sC]
  refine tkH 21 ⟨some 47, _, _, _, _, _⟩ ?_ rfl ?_ (by assumption) ?_
  rotate_left
  · (intro w hSw; (try dsimp only at hSw); go_simp; all_goals with_reducible rfl)
  try simp only [Act.put, sA, sB, sC]
  refine wpAnyH_done (by kernel_rfl) ?_ _
  go_wp2
  go_ret
  exact ⟨rfl, (by (repeat (first | (with_reducible refine Below.drew ?_) | (with_reducible refine below_drewN ?_ _) | (with_reducible refine Below.alloc ?_ (by first | omega | (simp; done) | (simp; omega) | (simp at *; omega)) _) | (with_reducible refine Below.setCell ?_ (by first | omega | (simp; done) | (simp; omega) | (simp at *; omega)) _) | (with_reducible exact Below.refl _ _) | (with_reducible assumption) | (with_reducible refine Below.trans ?_ (Below.mono (by assumption) (by first | omega | (simp; done) | (simp; omega) | (simp at *; omega)))))))⟩
/-- The error of a stop behind right ones; of a run. -/
def stpE (n : Nat) (M : List (List Int)) (Q Z : List Int) (k : Nat) : Int :=
  if firE [plcE n (Q.getD k 0), rngE (Z.getD k 0) 0 10000] = 0 then (if 0 < k ∧ mAt M (Q.getD (k - 1) 0).toNat (Q.getD k 0).toNat = -1 then 14 else 0) else firE [plcE n (Q.getD k 0), rngE (Z.getD k 0) 0 10000]
def runE (n : Nat) (M : List (List Int)) (b : Int) (Q Z : List Int) : Int :=
  if Q.length = 0 ∨ Z.length ≠ Q.length then 10 else if 12 < Q.length then 8 else if rngE b 0 1000000 = 0 then fsN (stpE n M Q Z) Q.length else rngE b 0 1000000
theorem firE2z {x y : Int} (h : firE [x, y] = 0) : x = 0 ∧ y = 0 := by
  unfold firE firE firE at h
  by_cases hx : x = 0
  · rw [if_pos hx] at h
    by_cases hy : y = 0
    · exact ⟨hx, hy⟩
    · rw [if_neg hy] at h; exact absurd h hy
  · rw [if_neg hx] at h; exact absurd h hx
theorem plcE_nat {n : Nat} {p : Int} (h : plcE n p = 0) : ∃ q : Nat, q < n ∧ p = (q : Int) := by
  unfold plcE at h
  split at h
  · rename_i h1
    obtain ⟨a, b⟩ := inB_iff.1 h1
    exact ⟨p.toNat, by omega, by omega⟩
  · omega
theorem stpE_0 {n : Nat} {M : List (List Int)} {Q Z : List Int} {k : Nat} (h : stpE n M Q Z k = 0) : (∃ q : Nat, q < n ∧ Q.getD k 0 = (q : Int)) ∧ (0 ≤ Z.getD k 0 ∧ Z.getD k 0 ≤ 10000) ∧ (0 < k → mAt M (Q.getD (k - 1) 0).toNat (Q.getD k 0).toNat ≠ -1) := by
  unfold stpE at h
  split at h
  · rename_i h1
    obtain ⟨h2, h3⟩ := firE2z h1
    refine ⟨plcE_nat h2, rngE_0 h3, fun hk hm => ?_⟩
    rw [if_pos ⟨hk, hm⟩] at h; omega
  · rename_i h1; exact absurd h h1
theorem runE_ok {n : Nat} {M : List (List Int)} {b : Int} {Q Z : List Int} (h : runE n M b Q Z = 0) : RunOk n M b Q Z := by
  unfold runE at h
  by_cases h0 : Q.length = 0 ∨ Z.length ≠ Q.length
  · rw [if_pos h0] at h; omega
  rw [if_neg h0] at h
  by_cases h1 : 12 < Q.length
  · rw [if_pos h1] at h; omega
  rw [if_neg h1] at h
  by_cases h2 : rngE b 0 1000000 = 0
  · rw [if_pos h2] at h
    obtain ⟨b0, b1⟩ := rngE_0 h2
    have hz : Z.length = Q.length := by
      by_cases e : Z.length = Q.length
      · exact e
      · exact absurd (Or.inr e) h0
    have hq : Q.length ≠ 0 := fun e => h0 (Or.inl e)
    refine ⟨by omega, by omega, hz, b0, b1, fun i hi => (stpE_0 (fsN_all h i hi)).1, fun i hi => (stpE_0 (fsN_all h i hi)).2.1, fun i hi => ?_⟩
    have := (stpE_0 (fsN_all h (i + 1) hi)).2.2 (by omega)
    rw [Nat.add_sub_cancel] at this
    exact this
  · rw [if_neg h2] at h; exact absurd h h2
theorem stop_all (A B Aq As : Option Addr) (n ca cb l cq cs k : Nat) (Pl : List ByteArray) (M : List (List Int)) (bg : Int) (Q Z : List Int) (E : Int) (w : World) (hl : n ≤ 12) (hl12 : l ≤ 12) (HC : Hid (ChSl w A B n Pl M)) (hq : Hid (l = Q.length)) (hzl : Hid (Z.length = Q.length)) (HQ : Hid (SlRows intV 1 w Aq Q)) (HZ : Hid (SlRows intV 1 w As Z)) (hk : k < l) (hpre : Hid (∀ j, j < k → stpE n M Q Z j = 0)) (hE : Hid (stpE n M Q Z k = E)) :
    Calls Tryz.prog 132 #[.agg #[.slice A n ca, .slice B n cb], .agg #[.int .i64 bg, .slice Aq l cq, .slice As l cs], .int .i64 k] w fun e w' => e = .returned (.int .i64 E) ∧ Below w.heap.size w w' := by
  have hkQ : k < Q.length := by rw [← hq.out]; exact hk
  obtain ⟨qb, qo, rfl, lq, cqc⟩ := sl_at HQ.out hkQ
  obtain ⟨sb, so, rfl, ls, csc⟩ := sl_at HZ.out (i := k) (by rw [hzl.out]; exact hkQ)
  have he := hE.out
  unfold stpE at he
  by_cases h0 : firE [plcE n (Q.getD k 0), rngE (Z.getD k 0) 0 10000] = 0
  · rw [if_pos h0] at he
    obtain ⟨h1, h2⟩ := firE2z h0
    obtain ⟨p, hp, ep⟩ := plcE_nat h1
    obtain ⟨s0, s1⟩ := rngE_0 h2
    by_cases hk0 : k = 0
    · subst hk0
      rw [if_neg (fun h => by omega)] at he
      rw [← he]
      have lr : w.heap.size = w.heap.size := rfl
      obtain ⟨mb, mo, C, cr, rfl, lm, c1, csp, lrb, c2⟩ := HC.out.at hp
      exact stop_first A n ca cb mb mo qb qo sb so l cq cs p bg _ w hl hk hp s0 s1 lm lq ls C.block lrb (by rw [show qo = qo + 0 by omega, cqc 0 hkQ, ep]) (by rw [show so = so + 0 by omega]; exact csc 0 (by rw [hzl.out]; exact hkQ))
    · obtain ⟨⟨p', hp', ep'⟩, _, _⟩ := stpE_0 (hpre.out (k - 1) (by omega))
      obtain ⟨mb, mo, C, cr, rfl, lm, c1, csp, lrb, c2⟩ := HC.out.at hp'
      obtain ⟨rb, ro, sp⟩ := C
      dsimp only at csp lrb c2
      subst csp
      rw [ep, ep'] at he
      simp only [Int.toNat_natCast] at he
      have c3 := c2 p hp
      by_cases hg : mAt M p' p = -1
      · rw [if_pos ⟨by omega, hg⟩] at he
        rw [← he]
        rw [hg] at c3
        exact stop_gap A n ca cb mb mo qb qo sb so l cq cs p p' rb ro cr k bg _ w hl hl12 (by omega) hk hp hp' s0 s1 lm lq ls lrb (by rw [cqc k hkQ, ep]) (csc k (by rw [hzl.out]; exact hkQ)) (by rw [cqc (k - 1) (by omega), ep']) c1 c3
      · rw [if_neg (fun h => hg h.2)] at he
        rw [← he]
        exact stop_next A n ca cb mb mo qb qo sb so l cq cs p p' rb ro cr k bg _ _ w hl hl12 (by omega) hk hp hp' s0 s1 (Lib.hid hg) lm lq ls lrb (by rw [cqc k hkQ, ep]) (csc k (by rw [hzl.out]; exact hkQ)) (by rw [cqc (k - 1) (by omega), ep']) c1 c3
  · rw [if_neg h0] at he
    exact stop_bad A B n ca cb qb qo sb so l cq cs k bg _ _ _ E w hl hk hl12 (Lib.hid rfl) (Lib.hid he) (by rw [← he]; simpa using h0) lq ls (cqc k hkQ) (csc k (by rw [hzl.out]; exact hkQ))
set_option maxRecDepth 100000 in
set_option maxHeartbeats 1000000 in
theorem checkRun_any (A B Aq As : Option Addr) (n ca cb l l2 cq cs : Nat) (Pl : List ByteArray) (M : List (List Int)) (bg : Int) (Q Z : List Int) (E : Int) (w : World) (hl : n ≤ 12) (hl3 : l ≤ 1000000) (hl4 : l2 ≤ 1000000) (HC : Hid (ChSl w A B n Pl M)) (hq : Hid (l = Q.length)) (hq2 : Hid (l2 = Z.length)) (HQ : Hid (SlRows intV 1 w Aq Q)) (HZ : Hid (SlRows intV 1 w As Z)) (hE : Hid (runE n M bg Q Z = E)) :
    Calls Tryz.prog 101 #[.agg #[.slice A n ca, .slice B n cb], .agg #[.int .i64 bg, .slice Aq l cq, .slice As l2 cs]] w fun e w' => e = .returned (.int .i64 E) ∧ Below w.heap.size w w' := by
  have he := hE.out
  unfold runE at he
  rw [← hq.out, ← hq2.out] at he
  clear hE
  by_cases h0 : l = 0
  · rw [if_pos (Or.inl h0)] at he
    have HE := Lib.hid he
    subst h0
    clear he
    go_enter Tryz.func101, Tryz.ntmps101
    go_wp2
    go_ret
    exact ⟨ret_int HE.out, (by (repeat (first | (with_reducible refine Below.drew ?_) | (with_reducible refine below_drewN ?_ _) | (with_reducible refine Below.alloc ?_ (by first | omega | (simp; done) | (simp; omega) | (simp at *; omega)) _) | (with_reducible refine Below.setCell ?_ (by first | omega | (simp; done) | (simp; omega) | (simp at *; omega)) _) | (with_reducible exact Below.refl _ _) | (with_reducible assumption) | (with_reducible refine Below.trans ?_ (Below.mono (by assumption) (by first | omega | (simp; done) | (simp; omega) | (simp at *; omega)))))))⟩
  have i0 : ((l : Int) == 0) = false := by simp; omega
  have i9 : ¬ (l : Int) = 0 := by omega
  by_cases h2 : l2 = l
  · rw [if_neg (fun h => h.elim h0 (fun h => h h2))] at he
    subst h2
    by_cases h12 : 12 < l2
    · rw [if_pos h12] at he
      have HE := Lib.hid he
      have i1 : (12 : Int) < (l2 : Int) := by omega
      clear he
      go_enter Tryz.func101, Tryz.ntmps101
      go_wp2
      go_ret
      exact ⟨ret_int HE.out, (by (repeat (first | (with_reducible refine Below.drew ?_) | (with_reducible refine below_drewN ?_ _) | (with_reducible refine Below.alloc ?_ (by first | omega | (simp; done) | (simp; omega) | (simp at *; omega)) _) | (with_reducible refine Below.setCell ?_ (by first | omega | (simp; done) | (simp; omega) | (simp at *; omega)) _) | (with_reducible exact Below.refl _ _) | (with_reducible assumption) | (with_reducible refine Below.trans ?_ (Below.mono (by assumption) (by first | omega | (simp; done) | (simp; omega) | (simp at *; omega)))))))⟩
    rw [if_neg h12] at he
    have i1 : ¬ (12 : Int) < (l2 : Int) := by omega
    obtain ⟨r, hr⟩ : ∃ r, Hid (rngE bg 0 1000000 = r) := ⟨_, Lib.hid rfl⟩
    rw [hr.out] at he
    have hr0 := hr.out
    rcases ez2 r with ⟨hz0, hzb⟩ | ⟨hz0, hzb⟩
    · rw [if_pos hz0.out] at he
      rw [hz0.out] at hr0
      have HE := Lib.hid he
      clear he hr hz0 hzb
      go_enter Tryz.func101, Tryz.ntmps101
      go_upto_region 1 with (fail)
      refine wp_world (RnU w A B Aq As n ca cb l2 cq cs bg w.heap.size (w.heap.size + 1)) (RnU.boxes w A B Aq As n ca cb l2 cq cs bg) (fun u hu => ?_)
      have HU := Lib.hid hu
      obtain ⟨c0, c1, r0, r1, r2, lc, lr, be⟩ := hu
      have HCU := Lib.hid (HC.out.below be)
      have HQU := Lib.hid (HQ.out.below be)
      have HZU := Lib.hid (HZ.out.below be)
      have HBE := Lib.hid be
      clear be HC HQ HZ
      generalize w.heap.size + 1 = br at *
      have HBE2 : Hid (∀ x, Below u.heap.size u x → BelS w x) := Lib.hid fun x hx => HBE.out.trans (hx.mono HBE.out.size)
      generalize w.heap.size = bc at *
      go_wp2_with ((go_at_call 77; ((with_reducible refine (checkMinute_any _ _).mono ?_)); rintro e w' ⟨rfl, rfl⟩))
      go_loopw [36] (fun i wr => ∃ k : Nat, k ≤ l2 ∧ i = .int .i64 k ∧ Hid (fsN (stpE n M Q Z) k = 0) ∧ Below u.heap.size u wr) (fun i _ => l2 - (intOf i).toNat)
      case atStart => exact ⟨0, by omega, rfl, Lib.hid rfl, Below.refl _ _⟩
      case round =>
        clear c0 c1 r0 r1 r2
        obtain ⟨k, hk, rfl, hz, hB⟩ := hrel
        by_cases hkl : k < l2
        · have kl : (k : Int) < (l2 : Int) := by omega
          obtain ⟨c0, c1, r0, r1, r2, _, _, _⟩ := HU.out.step hB
          have HCW := Lib.hid (HCU.out.below hB)
          have HQW := Lib.hid (HQU.out.below hB)
          have HZW := Lib.hid (HZU.out.below hB)
          have hzl : Hid (Z.length = Q.length) := Lib.hid (by rw [← hq.out, ← hq2.out])
          have hpre : Hid (∀ j, j < k → stpE n M Q Z j = 0) := Lib.hid (fsN_all hz.out)
          obtain ⟨F, hF⟩ : ∃ F, Hid (stpE n M Q Z k = F) := ⟨_, Lib.hid rfl⟩
          rcases ez2 F with ⟨hz0, hzb⟩ | ⟨hz0, hzb⟩
          · have hz2 : Hid (fsN (stpE n M Q Z) (k + 1) = 0) := Lib.hid (fsN_on hz.out (by rw [hF.out]; exact hz0.out))
            clear hz hz0
            go_wp2_with fail
            refine (stop_all A B Aq As n ca cb l2 cq cs k Pl M bg Q Z F _ hl (by omega) HCW hq hzl HQW HZW hkl hpre hF).mono ?_
            rintro e w1 ⟨rfl, hb1⟩
            have hB1 : Below u.heap.size u w1 := hB.trans (hb1.mono hB.size)
            clear hb1
            go_wp2
            go_roundw
            case rel => exact ⟨k + 1, by omega, by go_num, hz2, hB1⟩
            case measure => (simp [intOf]) <;> omega
          · have hrE : Hid (F = E) := Lib.hid (by rw [← HE.out, fsN_stop hz.out (by rw [hF.out]; exact hz0.out) l2 hkl, hF.out])
            clear hz hz0
            go_wp2_with fail
            refine (stop_all A B Aq As n ca cb l2 cq cs k Pl M bg Q Z F _ hl (by omega) HCW hq hzl HQW HZW hkl hpre hF).mono ?_
            rintro e w1 ⟨rfl, hb1⟩
            have hB1 : Below u.heap.size u w1 := hB.trans (hb1.mono hB.size)
            clear hb1
            go_wp2
            go_ret
            exact ⟨ret_int hrE.out, HBE2.out _ hB1⟩
        · have hkk : k = l2 := by omega
          have hrE : Hid (0 = E) := Lib.hid (by have h9 := hz.out; rw [hkk] at h9; rw [← HE.out]; exact h9.symm)
          clear hz hkk
          go_wp2
          go_ret
          exact ⟨ret_int hrE.out, HBE2.out _ hB⟩
    · rw [if_neg hz0.out] at he
      have HE := Lib.hid he
      clear he hz0
      go_enter Tryz.func101, Tryz.ntmps101
      go_wp2_with ((go_at_call 77; ((with_reducible refine (checkMinute_any _ _).mono ?_)); rintro e w' ⟨rfl, rfl⟩))
      go_ret
      exact ⟨ret_int HE.out, (by (repeat (first | (with_reducible refine Below.drew ?_) | (with_reducible refine below_drewN ?_ _) | (with_reducible refine Below.alloc ?_ (by first | omega | (simp; done) | (simp; omega) | (simp at *; omega)) _) | (with_reducible refine Below.setCell ?_ (by first | omega | (simp; done) | (simp; omega) | (simp at *; omega)) _) | (with_reducible exact Below.refl _ _) | (with_reducible assumption) | (with_reducible refine Below.trans ?_ (Below.mono (by assumption) (by first | omega | (simp; done) | (simp; omega) | (simp at *; omega)))))))⟩
  · rw [if_pos (Or.inr h2)] at he
    have HE := Lib.hid he
    have e1 : ¬ (l2 : Int) = (l : Int) := by omega
    have e2 : ((l2 : Int) == (l : Int)) = false := by simpa using e1
    clear he
    go_enter Tryz.func101, Tryz.ntmps101
    go_wp2
    go_ret
    exact ⟨ret_int HE.out, (by (repeat (first | (with_reducible refine Below.drew ?_) | (with_reducible refine below_drewN ?_ _) | (with_reducible refine Below.alloc ?_ (by first | omega | (simp; done) | (simp; omega) | (simp at *; omega)) _) | (with_reducible refine Below.setCell ?_ (by first | omega | (simp; done) | (simp; omega) | (simp at *; omega)) _) | (with_reducible exact Below.refl _ _) | (with_reducible assumption) | (with_reducible refine Below.trans ?_ (Below.mono (by assumption) (by first | omega | (simp; done) | (simp; omega) | (simp at *; omega)))))))⟩
end Go.Proofs.YtojaompfffpofaaGreat
