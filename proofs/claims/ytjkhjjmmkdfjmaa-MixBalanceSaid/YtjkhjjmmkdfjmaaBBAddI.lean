import Derived.Test.YtjkhjjmmkdfjmaaBBAdd0
import Derived.Test.YtjkhjjmmkdfjmaaBBFShM
import Derived.Outline
namespace Go.Proofs.Ytjkhjjmmkdfjmaa
open Go.ChangeShapes Go.WideShapes Go.ChangeAt Go.RowKit
set_option linter.unusedVariables false
set_option linter.unusedSimpArgs false
attribute [local go_sem ↓] Go.wp_at_zero Go.wp_at_succ
set_option maxHeartbeats 8000000 in
set_option maxRecDepth 100000 in
theorem add_I (rb vb n cap qa pa qb pb : Nat) (H : List Hd) (d o h am g0 g1 g2 k0 k1 k2 day va ma a0 a1 a2 SA vo mo b0 b1 b2 SB E X Y Z c0 c1 c2 G0 G1 G2 : Int) (fr tz sa sb : ByteArray) (pu : Bool) (w : World) (hn : Hid (n = H.length)) (hl : n ≤ 1000000) (r0 : w.cell? ⟨rb, 0, none⟩ = some (.slice (some ⟨vb, 0, none⟩) n cap)) (r1 : w.cell? ⟨rb, 1, none⟩ = some (.int .i64 g0)) (r2 : w.cell? ⟨rb, 2, none⟩ = some (.int .i64 g1)) (r3 : w.cell? ⟨rb, 3, none⟩ = some (.int .i64 g2)) (r4 : w.cell? ⟨rb, 4, none⟩ = some (.int .i64 k0)) (r5 : w.cell? ⟨rb, 5, none⟩ = some (.int .i64 k1)) (r6 : w.cell? ⟨rb, 6, none⟩ = some (.int .i64 k2)) (r7 : w.cell? ⟨rb, 7, none⟩ = some (.int .i64 day))  (xb0 : w.cell? ⟨vb, pb, none⟩ = some (.string sb)) (xb1 : w.cell? ⟨vb, pb + 1, none⟩ = some (.int .i64 vo)) (xb2 : w.cell? ⟨vb, pb + 2, none⟩ = some (.int .i64 mo)) (xb3 : w.cell? ⟨vb, pb + 3, none⟩ = some (.int .i64 b0)) (xb4 : w.cell? ⟨vb, pb + 4, none⟩ = some (.int .i64 b1)) (xb5 : w.cell? ⟨vb, pb + 5, none⟩ = some (.int .i64 b2)) (vf : ∀ j, w.frozen? ⟨vb, j, none⟩ = false) (rf : ∀ j, w.frozen? ⟨rb, j, none⟩ = false) (lv : vb < w.heap.size) (lr : rb < w.heap.size) (nrv : rb ≠ vb) (hR : Hid (RowsAt hdV 6 w vb 0 H)) (hF : Hid (fndV ⟨#[]⟩ (H.map hdS) = -1)) (hqb : Hid (qb < n)) (hT : Hid (fndV tz (H.map hdS) = qb)) (hpb : Hid (qb * 6 = pb)) (hA : Hid (alnE 0 d ⟨#[]⟩ tz o h am pu = 0)) (hG : Hid (gasE o h = 0)) (am1 : 1 ≤ am) (am2 : am ≤ 1000000000) (hcB : Hid (conB b0 b1 b2 = true)) (hSB : Hid (b0 + b1 + b2 = SB)) (v1 : 1 ≤ vo) (v2 : vo ≤ 1000000000) (m1 : 1 ≤ mo) (m2 : mo ≤ 1000000000) (hE : Hid (pos0 d day am SB vo mo = E)) (hX : Hid (E = 0 → am * o / 1000 = X ∧ am * h / 1000 = Y ∧ am - (X + Y) = Z)) (g0n : 0 ≤ g0) (g0m : g0 ≤ 1000000000000) (g1n : 0 ≤ g1) (g1m : g1 ≤ 1000000000000) (g2n : 0 ≤ g2) (g2m : g2 ≤ 1000000000000) (hC : Hid (b0 + X = c0 ∧ b1 + Y = c1 ∧ b2 + Z = c2)) (hI : Hid (g0 + X = G0 ∧ g1 + Y = G1 ∧ g2 + Z = G2))  : Calls Try.prog 65 #[.pointer (some ⟨rb, 0, none⟩), .agg #[.int .i64 0, .int .i64 d, .string ⟨#[]⟩, .string tz, .int .i64 o, .int .i64 h, .int .i64 am, .bool pu]] w fun e w' => e = .returned (.int .i64 E) ∧ ((¬ E = 0 ∧ Below w.heap.size w w') ∨ (E = 0 ∧ w'.cell? ⟨rb, 0, none⟩ = some (.slice (some ⟨vb, 0, none⟩) n cap) ∧ w'.cell? ⟨rb, 1, none⟩ = some (.int .i64 G0) ∧ w'.cell? ⟨rb, 2, none⟩ = some (.int .i64 G1) ∧ w'.cell? ⟨rb, 3, none⟩ = some (.int .i64 G2) ∧ w'.cell? ⟨rb, 4, none⟩ = some (.int .i64 k0) ∧ w'.cell? ⟨rb, 5, none⟩ = some (.int .i64 k1) ∧ w'.cell? ⟨rb, 6, none⟩ = some (.int .i64 k2) ∧ w'.cell? ⟨rb, 7, none⟩ = some (.int .i64 d) ∧ w'.cell? ⟨vb, pb + 3, none⟩ = some (.int .i64 c0) ∧ w'.cell? ⟨vb, pb + 4, none⟩ = some (.int .i64 c1) ∧ w'.cell? ⟨vb, pb + 5, none⟩ = some (.int .i64 c2) ∧ (∀ q, q ≠ pb + 3 → q ≠ pb + 4 → q ≠ pb + 5 → w'.cell? ⟨vb, q, none⟩ = w.cell? ⟨vb, q, none⟩) ∧ (∀ j, w'.frozen? ⟨vb, j, none⟩ = false) ∧ (∀ j, w'.frozen? ⟨rb, j, none⟩ = false) ∧ BelowD rb vb w.heap.size w w')) := by
  have o1 : vb ≠ w.heap.size := by omega
  have o2 : rb ≠ w.heap.size := by omega
  have o3 : vb < w.heap.size + 1 := by omega
  have o4 : rb < w.heap.size + 1 := by omega
  have nvr : vb ≠ rb := fun h => nrv h.symm
  obtain ⟨cb0, cb1, cb2, cb3⟩ := conB_iff.1 hcB.out
  go_enter Try.func65, Try.ntmps65
  go_wp2_with fail
  refine (alp_any 0 d o h am 0 ⟨#[]⟩ tz pu _ hA).mono ?_
  rintro e xw1 ⟨rfl, hbx1⟩
  have zx1 := hbx1.size
  try simp at zx1
  obtain ⟨x1_0_0, x1_0_1, x1_0_2, x1_0_3, x1_0_4, x1_0_5, x1_0_6, x1_0_7, x1_1_0, x1_1_1, x1_1_2, x1_1_3, x1_1_4, x1_1_5, x1_2_0, x1_2_1, x1_2_2, x1_2_3, x1_2_4, x1_2_5, x1_2_6, x1_2_7⟩ : xw1.cell? ⟨w.heap.size, 0, none⟩ = some (.int .i64 0) ∧ xw1.cell? ⟨w.heap.size, 1, none⟩ = some (.int .i64 d) ∧ xw1.cell? ⟨w.heap.size, 2, none⟩ = some (.string ⟨#[]⟩) ∧ xw1.cell? ⟨w.heap.size, 3, none⟩ = some (.string tz) ∧ xw1.cell? ⟨w.heap.size, 4, none⟩ = some (.int .i64 o) ∧ xw1.cell? ⟨w.heap.size, 5, none⟩ = some (.int .i64 h) ∧ xw1.cell? ⟨w.heap.size, 6, none⟩ = some (.int .i64 am) ∧ xw1.cell? ⟨w.heap.size, 7, none⟩ = some (.bool pu) ∧ xw1.cell? ⟨vb, pb, none⟩ = some (.string sb) ∧ xw1.cell? ⟨vb, pb + 1, none⟩ = some (.int .i64 vo) ∧ xw1.cell? ⟨vb, pb + 2, none⟩ = some (.int .i64 mo) ∧ xw1.cell? ⟨vb, pb + 3, none⟩ = some (.int .i64 b0) ∧ xw1.cell? ⟨vb, pb + 4, none⟩ = some (.int .i64 b1) ∧ xw1.cell? ⟨vb, pb + 5, none⟩ = some (.int .i64 b2) ∧ xw1.cell? ⟨rb, 0, none⟩ = some (.slice (some ⟨vb, 0, none⟩) n cap) ∧ xw1.cell? ⟨rb, 1, none⟩ = some (.int .i64 g0) ∧ xw1.cell? ⟨rb, 2, none⟩ = some (.int .i64 g1) ∧ xw1.cell? ⟨rb, 3, none⟩ = some (.int .i64 g2) ∧ xw1.cell? ⟨rb, 4, none⟩ = some (.int .i64 k0) ∧ xw1.cell? ⟨rb, 5, none⟩ = some (.int .i64 k1) ∧ xw1.cell? ⟨rb, 6, none⟩ = some (.int .i64 k2) ∧ xw1.cell? ⟨rb, 7, none⟩ = some (.int .i64 day) := by refine ⟨?_, ?_, ?_, ?_, ?_, ?_, ?_, ?_, ?_, ?_, ?_, ?_, ?_, ?_, ?_, ?_, ?_, ?_, ?_, ?_, ?_, ?_⟩ <;> (rw [(bcell hbx1).1 _ _ (by first | (simp; done) | (simp; omega) | omega)]; simp [go_sem, cP, *])
  obtain ⟨x1f1, x1f2⟩ : (∀ j, xw1.frozen? ⟨vb, j, none⟩ = false) ∧ (∀ j, xw1.frozen? ⟨rb, j, none⟩ = false) := by refine ⟨?_, ?_⟩ <;> (intro j; rw [(bcell hbx1).2 _ _ (by first | (simp; done) | (simp; omega) | omega)]; simp [go_sem, *])
  obtain ⟨x1o0, x1n0, x1t0_0, x1t0_1, x1o1, x1n1, x1t1_0, x1t1_1, x1o2, x1n2, x1t2_0, x1t2_1⟩ : w.heap.size < xw1.heap.size ∧ xw1.heap.size ≠ w.heap.size ∧ w.heap.size < xw1.heap.size + 1 ∧ w.heap.size < xw1.heap.size + 1 + 1 ∧ vb < xw1.heap.size ∧ xw1.heap.size ≠ vb ∧ vb < xw1.heap.size + 1 ∧ vb < xw1.heap.size + 1 + 1 ∧ rb < xw1.heap.size ∧ xw1.heap.size ≠ rb ∧ rb < xw1.heap.size + 1 ∧ rb < xw1.heap.size + 1 + 1 := by refine ⟨?_, ?_, ?_, ?_, ?_, ?_, ?_, ?_, ?_, ?_, ?_, ?_⟩ <;> omega
  have hBx1 : Below w.heap.size w xw1 := belA
  clear hbx1 
  go_upto_region 4 with (fail)
  refine wp_region_held_drew (S := (fun w' => w'.cell? ⟨w.heap.size, 0, none⟩ = some (.int .i64 0) ∧ w'.cell? ⟨w.heap.size, 1, none⟩ = some (.int .i64 d) ∧ w'.cell? ⟨w.heap.size, 2, none⟩ = some (.string ⟨#[]⟩) ∧ w'.cell? ⟨w.heap.size, 3, none⟩ = some (.string tz) ∧ w'.cell? ⟨w.heap.size, 4, none⟩ = some (.int .i64 o) ∧ w'.cell? ⟨w.heap.size, 5, none⟩ = some (.int .i64 h) ∧ w'.cell? ⟨w.heap.size, 6, none⟩ = some (.int .i64 am) ∧ w'.cell? ⟨w.heap.size, 7, none⟩ = some (.bool pu) ∧ w'.cell? ⟨rb, 0, none⟩ = some (.slice (some ⟨vb, 0, none⟩) n cap) ∧ w'.cell? ⟨rb, 1, none⟩ = some (.int .i64 g0) ∧ w'.cell? ⟨rb, 2, none⟩ = some (.int .i64 g1) ∧ w'.cell? ⟨rb, 3, none⟩ = some (.int .i64 g2) ∧ w'.cell? ⟨rb, 4, none⟩ = some (.int .i64 k0) ∧ w'.cell? ⟨rb, 5, none⟩ = some (.int .i64 k1) ∧ w'.cell? ⟨rb, 6, none⟩ = some (.int .i64 k2) ∧ w'.cell? ⟨rb, 7, none⟩ = some (.int .i64 day))) (by kernel_rfl) (by simp [go_sem, cP, *]) (fun hHeld => ?_)
  refine tkH 0 ⟨some 15, _, _, _, _, _⟩ ?_ rfl ?_ (by assumption) ?_
  rotate_left
  · (intro w hSw; (try dsimp only at hSw); go_simp; all_goals with_reducible rfl)
  try simp only [Act.put, sA, sB, sC]
  refine tkH 1 ⟨some 16, _, _, _, _, _⟩ ?_ rfl ?_ (by assumption) ?_
  rotate_left
  · (intro w hSw; (try dsimp only at hSw); go_simp; all_goals with_reducible rfl)
  try simp only [Act.put, sA, sB, sC]
  refine tkH 2 ⟨some 17, _, _, _, _, _⟩ ?_ rfl ?_ (by assumption) ?_
  rotate_left
  · (intro w hSw; (try dsimp only at hSw); go_simp; all_goals with_reducible rfl)
  try simp only [Act.put, sA, sB, sC]
  refine tkH 3 ⟨some 18, _, _, _, _, _⟩ ?_ rfl ?_ (by assumption) ?_
  rotate_left
  · (intro w hSw; (try dsimp only at hSw); go_simp; all_goals with_reducible rfl)
  try simp only [Act.put, sA, sB, sC]
  refine tkH 4 ⟨some 19, _, _, _, _, _⟩ ?_ rfl ?_ (by assumption) ?_
  rotate_left
  · (intro w hSw; (try dsimp only at hSw); go_simp; all_goals with_reducible rfl)
  try simp only [Act.put, sA, sB, sC]
  refine tkH 6 ⟨some 21, _, _, _, _, _⟩ ?_ rfl ?_ (by assumption) ?_
  rotate_left
  · (intro w hSw; (try dsimp only at hSw); go_simp; all_goals with_reducible rfl)
  try simp only [Act.put, sA, sB, sC]
  refine tkH 7 ⟨some 22, _, _, _, _, _⟩ ?_ rfl ?_ (by assumption) ?_
  rotate_left
  · (intro w hSw; (try dsimp only at hSw); go_simp; all_goals with_reducible rfl)
  try simp only [Act.put, sA, sB, sC]
  refine tkH 8 ⟨some 23, _, _, _, _, _⟩ ?_ rfl ?_ (by assumption) ?_
  rotate_left
  · (intro w hSw; (try dsimp only at hSw); go_simp; all_goals with_reducible rfl)
  try simp only [Act.put, sA, sB, sC]
  refine tkH 9 ⟨some 24, _, _, _, _, _⟩ ?_ rfl ?_ (by assumption) ?_
  rotate_left
  · (intro w hSw; (try dsimp only at hSw); go_simp; all_goals with_reducible rfl)
  try simp only [Act.put, sA, sB, sC]
  refine tkH 10 ⟨some 25, _, _, _, _, _⟩ ?_ rfl ?_ (by assumption) ?_
  rotate_left
  · (intro w hSw; (try dsimp only at hSw); go_simp; all_goals with_reducible rfl)
  try simp only [Act.put, sA, sB, sC]
  refine wpAnyH_ready (rs := [5]) (by kernel_rfl) (by simp) ?_
  refine AllReadyH.cons rfl (fun K hK => ?_) AllReadyH.nil
  go_simp
  refine (vessel_no H (some ⟨vb, 0, none⟩) cap n ⟨#[]⟩ g0 g1 g2 k0 k1 k2 day _ w w.heap.size hn hl (Lib.hid (Or.inr ⟨vb, rfl, lv, hR.out⟩)) (by first | exact hBx1 | exact hBx1.drew) (by first | omega | (simp; omega)) hF).mono ?_
  rintro e xw2 ⟨rfl, hbx2⟩
  have zx2 := hbx2.size
  try simp at zx2
  obtain ⟨x2_0_0, x2_0_1, x2_0_2, x2_0_3, x2_0_4, x2_0_5, x2_0_6, x2_0_7, x2_1_0, x2_1_1, x2_1_2, x2_1_3, x2_1_4, x2_1_5, x2_2_0, x2_2_1, x2_2_2, x2_2_3, x2_2_4, x2_2_5, x2_2_6, x2_2_7⟩ : xw2.cell? ⟨w.heap.size, 0, none⟩ = some (.int .i64 0) ∧ xw2.cell? ⟨w.heap.size, 1, none⟩ = some (.int .i64 d) ∧ xw2.cell? ⟨w.heap.size, 2, none⟩ = some (.string ⟨#[]⟩) ∧ xw2.cell? ⟨w.heap.size, 3, none⟩ = some (.string tz) ∧ xw2.cell? ⟨w.heap.size, 4, none⟩ = some (.int .i64 o) ∧ xw2.cell? ⟨w.heap.size, 5, none⟩ = some (.int .i64 h) ∧ xw2.cell? ⟨w.heap.size, 6, none⟩ = some (.int .i64 am) ∧ xw2.cell? ⟨w.heap.size, 7, none⟩ = some (.bool pu) ∧ xw2.cell? ⟨vb, pb, none⟩ = some (.string sb) ∧ xw2.cell? ⟨vb, pb + 1, none⟩ = some (.int .i64 vo) ∧ xw2.cell? ⟨vb, pb + 2, none⟩ = some (.int .i64 mo) ∧ xw2.cell? ⟨vb, pb + 3, none⟩ = some (.int .i64 b0) ∧ xw2.cell? ⟨vb, pb + 4, none⟩ = some (.int .i64 b1) ∧ xw2.cell? ⟨vb, pb + 5, none⟩ = some (.int .i64 b2) ∧ xw2.cell? ⟨rb, 0, none⟩ = some (.slice (some ⟨vb, 0, none⟩) n cap) ∧ xw2.cell? ⟨rb, 1, none⟩ = some (.int .i64 g0) ∧ xw2.cell? ⟨rb, 2, none⟩ = some (.int .i64 g1) ∧ xw2.cell? ⟨rb, 3, none⟩ = some (.int .i64 g2) ∧ xw2.cell? ⟨rb, 4, none⟩ = some (.int .i64 k0) ∧ xw2.cell? ⟨rb, 5, none⟩ = some (.int .i64 k1) ∧ xw2.cell? ⟨rb, 6, none⟩ = some (.int .i64 k2) ∧ xw2.cell? ⟨rb, 7, none⟩ = some (.int .i64 day) := by refine ⟨?_, ?_, ?_, ?_, ?_, ?_, ?_, ?_, ?_, ?_, ?_, ?_, ?_, ?_, ?_, ?_, ?_, ?_, ?_, ?_, ?_, ?_⟩ <;> (rw [(bcell hbx2).1 _ _ (by first | (simp; done) | (simp; omega) | omega)]; simp [go_sem, cP, *])
  obtain ⟨x2f1, x2f2⟩ : (∀ j, xw2.frozen? ⟨vb, j, none⟩ = false) ∧ (∀ j, xw2.frozen? ⟨rb, j, none⟩ = false) := by refine ⟨?_, ?_⟩ <;> (intro j; rw [(bcell hbx2).2 _ _ (by first | (simp; done) | (simp; omega) | omega)]; simp [go_sem, *])
  obtain ⟨x2o0, x2n0, x2t0_0, x2t0_1, x2o1, x2n1, x2t1_0, x2t1_1, x2o2, x2n2, x2t2_0, x2t2_1⟩ : w.heap.size < xw2.heap.size ∧ xw2.heap.size ≠ w.heap.size ∧ w.heap.size < xw2.heap.size + 1 ∧ w.heap.size < xw2.heap.size + 1 + 1 ∧ vb < xw2.heap.size ∧ xw2.heap.size ≠ vb ∧ vb < xw2.heap.size + 1 ∧ vb < xw2.heap.size + 1 + 1 ∧ rb < xw2.heap.size ∧ xw2.heap.size ≠ rb ∧ rb < xw2.heap.size + 1 ∧ rb < xw2.heap.size + 1 + 1 := by refine ⟨?_, ?_, ?_, ?_, ?_, ?_, ?_, ?_, ?_, ?_, ?_, ?_⟩ <;> omega
  have hBx2 : Below w.heap.size w xw2 := belA
  clear hbx2 x1_0_0 x1_0_1 x1_0_2 x1_0_3 x1_0_4 x1_0_5 x1_0_6 x1_0_7 x1_1_0 x1_1_1 x1_1_2 x1_1_3 x1_1_4 x1_1_5 x1_2_0 x1_2_1 x1_2_2 x1_2_3 x1_2_4 x1_2_5 x1_2_6 x1_2_7 x1f1 x1f2 x1o0 x1n0 x1t0_0 x1t0_1 x1o1 x1n1 x1t1_0 x1t1_1 x1o2 x1n2 x1t2_0 x1t2_1 hBx1
  go_wp2_with fail
  refine hK.out _ _ (by simp [go_sem, cP, *]) (fun hHeld => ?_)
  clear hK K
  try simp only [Act.put, sA, sB, sC]
  refine wpAnyH_ready (rs := [11]) (by kernel_rfl) (by simp) ?_
  refine AllReadyH.cons rfl (fun K hK => ?_) AllReadyH.nil
  go_simp
  refine (vessel_at H vb cap n qb pb tz g0 g1 g2 k0 k1 k2 day _ hn hl (by first | omega | (simp; omega)) (hR.out.below (by first | exact hBx2 | exact hBx2.drew) lv) hqb hT hpb).mono ?_
  rintro e xw3 ⟨rfl, hbx3⟩
  have zx3 := hbx3.size
  try simp at zx3
  obtain ⟨x3_0_0, x3_0_1, x3_0_2, x3_0_3, x3_0_4, x3_0_5, x3_0_6, x3_0_7, x3_1_0, x3_1_1, x3_1_2, x3_1_3, x3_1_4, x3_1_5, x3_2_0, x3_2_1, x3_2_2, x3_2_3, x3_2_4, x3_2_5, x3_2_6, x3_2_7⟩ : xw3.cell? ⟨w.heap.size, 0, none⟩ = some (.int .i64 0) ∧ xw3.cell? ⟨w.heap.size, 1, none⟩ = some (.int .i64 d) ∧ xw3.cell? ⟨w.heap.size, 2, none⟩ = some (.string ⟨#[]⟩) ∧ xw3.cell? ⟨w.heap.size, 3, none⟩ = some (.string tz) ∧ xw3.cell? ⟨w.heap.size, 4, none⟩ = some (.int .i64 o) ∧ xw3.cell? ⟨w.heap.size, 5, none⟩ = some (.int .i64 h) ∧ xw3.cell? ⟨w.heap.size, 6, none⟩ = some (.int .i64 am) ∧ xw3.cell? ⟨w.heap.size, 7, none⟩ = some (.bool pu) ∧ xw3.cell? ⟨vb, pb, none⟩ = some (.string sb) ∧ xw3.cell? ⟨vb, pb + 1, none⟩ = some (.int .i64 vo) ∧ xw3.cell? ⟨vb, pb + 2, none⟩ = some (.int .i64 mo) ∧ xw3.cell? ⟨vb, pb + 3, none⟩ = some (.int .i64 b0) ∧ xw3.cell? ⟨vb, pb + 4, none⟩ = some (.int .i64 b1) ∧ xw3.cell? ⟨vb, pb + 5, none⟩ = some (.int .i64 b2) ∧ xw3.cell? ⟨rb, 0, none⟩ = some (.slice (some ⟨vb, 0, none⟩) n cap) ∧ xw3.cell? ⟨rb, 1, none⟩ = some (.int .i64 g0) ∧ xw3.cell? ⟨rb, 2, none⟩ = some (.int .i64 g1) ∧ xw3.cell? ⟨rb, 3, none⟩ = some (.int .i64 g2) ∧ xw3.cell? ⟨rb, 4, none⟩ = some (.int .i64 k0) ∧ xw3.cell? ⟨rb, 5, none⟩ = some (.int .i64 k1) ∧ xw3.cell? ⟨rb, 6, none⟩ = some (.int .i64 k2) ∧ xw3.cell? ⟨rb, 7, none⟩ = some (.int .i64 day) := by refine ⟨?_, ?_, ?_, ?_, ?_, ?_, ?_, ?_, ?_, ?_, ?_, ?_, ?_, ?_, ?_, ?_, ?_, ?_, ?_, ?_, ?_, ?_⟩ <;> (rw [(bcell hbx3).1 _ _ (by first | (simp; done) | (simp; omega) | omega)]; simp [go_sem, cP, *])
  obtain ⟨x3f1, x3f2⟩ : (∀ j, xw3.frozen? ⟨vb, j, none⟩ = false) ∧ (∀ j, xw3.frozen? ⟨rb, j, none⟩ = false) := by refine ⟨?_, ?_⟩ <;> (intro j; rw [(bcell hbx3).2 _ _ (by first | (simp; done) | (simp; omega) | omega)]; simp [go_sem, *])
  obtain ⟨x3o0, x3n0, x3t0_0, x3t0_1, x3o1, x3n1, x3t1_0, x3t1_1, x3o2, x3n2, x3t2_0, x3t2_1⟩ : w.heap.size < xw3.heap.size ∧ xw3.heap.size ≠ w.heap.size ∧ w.heap.size < xw3.heap.size + 1 ∧ w.heap.size < xw3.heap.size + 1 + 1 ∧ vb < xw3.heap.size ∧ xw3.heap.size ≠ vb ∧ vb < xw3.heap.size + 1 ∧ vb < xw3.heap.size + 1 + 1 ∧ rb < xw3.heap.size ∧ xw3.heap.size ≠ rb ∧ rb < xw3.heap.size + 1 ∧ rb < xw3.heap.size + 1 + 1 := by refine ⟨?_, ?_, ?_, ?_, ?_, ?_, ?_, ?_, ?_, ?_, ?_, ?_⟩ <;> omega
  have hBx3 : Below w.heap.size w xw3 := belA
  clear hbx3 x2_0_0 x2_0_1 x2_0_2 x2_0_3 x2_0_4 x2_0_5 x2_0_6 x2_0_7 x2_1_0 x2_1_1 x2_1_2 x2_1_3 x2_1_4 x2_1_5 x2_2_0 x2_2_1 x2_2_2 x2_2_3 x2_2_4 x2_2_5 x2_2_6 x2_2_7 x2f1 x2f2 x2o0 x2n0 x2t0_0 x2t0_1 x2o1 x2n1 x2t1_0 x2t1_1 x2o2 x2n2 x2t2_0 x2t2_1 hBx2
  go_wp2_with fail
  refine hK.out _ _ (by simp [go_sem, cP, *]) (fun hHeld => ?_)
  clear hK K
  try simp only [Act.put, sA, sB, sC]
  refine tkH 12 ⟨some 6, _, _, _, _, _⟩ ?_ rfl ?_ (by assumption) ?_
  rotate_left
  · (intro w hSw; (try dsimp only at hSw); go_simp; all_goals with_reducible rfl)
  try simp only [Act.put, sA, sB, sC]
  refine tkH 13 ⟨some 7, _, _, _, _, _⟩ ?_ rfl ?_ (by assumption) ?_
  rotate_left
  · (intro w hSw; (try dsimp only at hSw); go_simp; all_goals with_reducible rfl)
  try simp only [Act.put, sA, sB, sC]
  refine wpAnyH_done (by kernel_rfl) ?_ _
  go_wp2_with fail
  refine (pos_0 rb vb 0 pb d am o h day ⟨#[]⟩ tz ⟨#[]⟩ sb pu vo mo b0 b1 b2 SB E _ hE (by simp [go_sem, *]) (by simp [go_sem, *]) (by simp [go_sem, *]) (by simp [go_sem, *]) (by simp [go_sem, *]) (by simp [go_sem, *]) (by simp [go_sem, *]) hcB hSB v1 v2 m1 m2 am1 am2 (by first | omega | (simp; omega)) (by first | omega | (simp; omega))).mono ?_
  rintro e xw4 ⟨rfl, hbx4⟩
  have zx4 := hbx4.size
  try simp at zx4
  obtain ⟨x4_0_0, x4_0_1, x4_0_2, x4_0_3, x4_0_4, x4_0_5, x4_0_6, x4_0_7, x4_1_0, x4_1_1, x4_1_2, x4_1_3, x4_1_4, x4_1_5, x4_2_0, x4_2_1, x4_2_2, x4_2_3, x4_2_4, x4_2_5, x4_2_6, x4_2_7⟩ : xw4.cell? ⟨w.heap.size, 0, none⟩ = some (.int .i64 0) ∧ xw4.cell? ⟨w.heap.size, 1, none⟩ = some (.int .i64 d) ∧ xw4.cell? ⟨w.heap.size, 2, none⟩ = some (.string ⟨#[]⟩) ∧ xw4.cell? ⟨w.heap.size, 3, none⟩ = some (.string tz) ∧ xw4.cell? ⟨w.heap.size, 4, none⟩ = some (.int .i64 o) ∧ xw4.cell? ⟨w.heap.size, 5, none⟩ = some (.int .i64 h) ∧ xw4.cell? ⟨w.heap.size, 6, none⟩ = some (.int .i64 am) ∧ xw4.cell? ⟨w.heap.size, 7, none⟩ = some (.bool pu) ∧ xw4.cell? ⟨vb, pb, none⟩ = some (.string sb) ∧ xw4.cell? ⟨vb, pb + 1, none⟩ = some (.int .i64 vo) ∧ xw4.cell? ⟨vb, pb + 2, none⟩ = some (.int .i64 mo) ∧ xw4.cell? ⟨vb, pb + 3, none⟩ = some (.int .i64 b0) ∧ xw4.cell? ⟨vb, pb + 4, none⟩ = some (.int .i64 b1) ∧ xw4.cell? ⟨vb, pb + 5, none⟩ = some (.int .i64 b2) ∧ xw4.cell? ⟨rb, 0, none⟩ = some (.slice (some ⟨vb, 0, none⟩) n cap) ∧ xw4.cell? ⟨rb, 1, none⟩ = some (.int .i64 g0) ∧ xw4.cell? ⟨rb, 2, none⟩ = some (.int .i64 g1) ∧ xw4.cell? ⟨rb, 3, none⟩ = some (.int .i64 g2) ∧ xw4.cell? ⟨rb, 4, none⟩ = some (.int .i64 k0) ∧ xw4.cell? ⟨rb, 5, none⟩ = some (.int .i64 k1) ∧ xw4.cell? ⟨rb, 6, none⟩ = some (.int .i64 k2) ∧ xw4.cell? ⟨rb, 7, none⟩ = some (.int .i64 day) := by refine ⟨?_, ?_, ?_, ?_, ?_, ?_, ?_, ?_, ?_, ?_, ?_, ?_, ?_, ?_, ?_, ?_, ?_, ?_, ?_, ?_, ?_, ?_⟩ <;> (rw [(bcell hbx4).1 _ _ (by first | (simp; done) | (simp; omega) | omega)]; simp [go_sem, cP, *])
  obtain ⟨x4f1, x4f2⟩ : (∀ j, xw4.frozen? ⟨vb, j, none⟩ = false) ∧ (∀ j, xw4.frozen? ⟨rb, j, none⟩ = false) := by refine ⟨?_, ?_⟩ <;> (intro j; rw [(bcell hbx4).2 _ _ (by first | (simp; done) | (simp; omega) | omega)]; simp [go_sem, *])
  obtain ⟨x4o0, x4n0, x4t0_0, x4t0_1, x4o1, x4n1, x4t1_0, x4t1_1, x4o2, x4n2, x4t2_0, x4t2_1⟩ : w.heap.size < xw4.heap.size ∧ xw4.heap.size ≠ w.heap.size ∧ w.heap.size < xw4.heap.size + 1 ∧ w.heap.size < xw4.heap.size + 1 + 1 ∧ vb < xw4.heap.size ∧ xw4.heap.size ≠ vb ∧ vb < xw4.heap.size + 1 ∧ vb < xw4.heap.size + 1 + 1 ∧ rb < xw4.heap.size ∧ xw4.heap.size ≠ rb ∧ rb < xw4.heap.size + 1 ∧ rb < xw4.heap.size + 1 + 1 := by refine ⟨?_, ?_, ?_, ?_, ?_, ?_, ?_, ?_, ?_, ?_, ?_, ?_⟩ <;> omega
  have hBx4 : Below w.heap.size w xw4 := belA
  clear hbx4 x3_0_0 x3_0_1 x3_0_2 x3_0_3 x3_0_4 x3_0_5 x3_0_6 x3_0_7 x3_1_0 x3_1_1 x3_1_2 x3_1_3 x3_1_4 x3_1_5 x3_2_0 x3_2_1 x3_2_2 x3_2_3 x3_2_4 x3_2_5 x3_2_6 x3_2_7 x3f1 x3f2 x3o0 x3n0 x3t0_0 x3t0_1 x3o1 x3n1 x3t1_0 x3t1_1 x3o2 x3n2 x3t2_0 x3t2_1 hBx3
  by_cases hz : E = 0
  · skip
    have hz2 : (E != 0) = false := by rw [hz]; rfl
    obtain ⟨x1, x2, x3⟩ := hX.out hz
    obtain ⟨-, -, -, -, -, -, -, X0, Y0, Z0, X1, Y1, Z1⟩ := bri_math hG.out am1 am2 x1 x2 x3
    have x1 := Lib.hid x1
    have x2 := Lib.hid x2
    have x3 := Lib.hid x3
    go_wp2_with fail
    refine (broughtIn_any 0 d o h am X Y Z ⟨#[]⟩ tz pu _ hG am1 am2 x1 x2 x3).mono ?_
    rintro e xw5 ⟨rfl, hbx5⟩
    have zx5 := hbx5.size
    try simp at zx5
    obtain ⟨x5_0_0, x5_0_1, x5_0_2, x5_0_3, x5_0_4, x5_0_5, x5_0_6, x5_0_7, x5_1_0, x5_1_1, x5_1_2, x5_1_3, x5_1_4, x5_1_5, x5_2_0, x5_2_1, x5_2_2, x5_2_3, x5_2_4, x5_2_5, x5_2_6, x5_2_7⟩ : xw5.cell? ⟨w.heap.size, 0, none⟩ = some (.int .i64 0) ∧ xw5.cell? ⟨w.heap.size, 1, none⟩ = some (.int .i64 d) ∧ xw5.cell? ⟨w.heap.size, 2, none⟩ = some (.string ⟨#[]⟩) ∧ xw5.cell? ⟨w.heap.size, 3, none⟩ = some (.string tz) ∧ xw5.cell? ⟨w.heap.size, 4, none⟩ = some (.int .i64 o) ∧ xw5.cell? ⟨w.heap.size, 5, none⟩ = some (.int .i64 h) ∧ xw5.cell? ⟨w.heap.size, 6, none⟩ = some (.int .i64 am) ∧ xw5.cell? ⟨w.heap.size, 7, none⟩ = some (.bool pu) ∧ xw5.cell? ⟨vb, pb, none⟩ = some (.string sb) ∧ xw5.cell? ⟨vb, pb + 1, none⟩ = some (.int .i64 vo) ∧ xw5.cell? ⟨vb, pb + 2, none⟩ = some (.int .i64 mo) ∧ xw5.cell? ⟨vb, pb + 3, none⟩ = some (.int .i64 b0) ∧ xw5.cell? ⟨vb, pb + 4, none⟩ = some (.int .i64 b1) ∧ xw5.cell? ⟨vb, pb + 5, none⟩ = some (.int .i64 b2) ∧ xw5.cell? ⟨rb, 0, none⟩ = some (.slice (some ⟨vb, 0, none⟩) n cap) ∧ xw5.cell? ⟨rb, 1, none⟩ = some (.int .i64 g0) ∧ xw5.cell? ⟨rb, 2, none⟩ = some (.int .i64 g1) ∧ xw5.cell? ⟨rb, 3, none⟩ = some (.int .i64 g2) ∧ xw5.cell? ⟨rb, 4, none⟩ = some (.int .i64 k0) ∧ xw5.cell? ⟨rb, 5, none⟩ = some (.int .i64 k1) ∧ xw5.cell? ⟨rb, 6, none⟩ = some (.int .i64 k2) ∧ xw5.cell? ⟨rb, 7, none⟩ = some (.int .i64 day) := by refine ⟨?_, ?_, ?_, ?_, ?_, ?_, ?_, ?_, ?_, ?_, ?_, ?_, ?_, ?_, ?_, ?_, ?_, ?_, ?_, ?_, ?_, ?_⟩ <;> (rw [(bcell hbx5).1 _ _ (by first | (simp; done) | (simp; omega) | omega)]; simp [go_sem, cP, *])
    obtain ⟨x5f1, x5f2⟩ : (∀ j, xw5.frozen? ⟨vb, j, none⟩ = false) ∧ (∀ j, xw5.frozen? ⟨rb, j, none⟩ = false) := by refine ⟨?_, ?_⟩ <;> (intro j; rw [(bcell hbx5).2 _ _ (by first | (simp; done) | (simp; omega) | omega)]; simp [go_sem, *])
    obtain ⟨x5o0, x5n0, x5t0_0, x5t0_1, x5o1, x5n1, x5t1_0, x5t1_1, x5o2, x5n2, x5t2_0, x5t2_1⟩ : w.heap.size < xw5.heap.size ∧ xw5.heap.size ≠ w.heap.size ∧ w.heap.size < xw5.heap.size + 1 ∧ w.heap.size < xw5.heap.size + 1 + 1 ∧ vb < xw5.heap.size ∧ xw5.heap.size ≠ vb ∧ vb < xw5.heap.size + 1 ∧ vb < xw5.heap.size + 1 + 1 ∧ rb < xw5.heap.size ∧ xw5.heap.size ≠ rb ∧ rb < xw5.heap.size + 1 ∧ rb < xw5.heap.size + 1 + 1 := by refine ⟨?_, ?_, ?_, ?_, ?_, ?_, ?_, ?_, ?_, ?_, ?_, ?_⟩ <;> omega
    have hBx5 : Below w.heap.size w xw5 := belA
    clear hbx5 x4_0_0 x4_0_1 x4_0_2 x4_0_3 x4_0_4 x4_0_5 x4_0_6 x4_0_7 x4_1_0 x4_1_1 x4_1_2 x4_1_3 x4_1_4 x4_1_5 x4_2_0 x4_2_1 x4_2_2 x4_2_3 x4_2_4 x4_2_5 x4_2_6 x4_2_7 x4f1 x4f2 x4o0 x4n0 x4t0_0 x4t0_1 x4o1 x4n1 x4t1_0 x4t1_1 x4o2 x4n2 x4t2_0 x4t2_1 hBx4
    go_upto_region 12 with (fail)
    obtain ⟨y0_0_0, y0_0_1, y0_0_2, y0_0_3, y0_0_4, y0_0_5, y0_0_6, y0_0_7, y0_1_0, y0_1_1, y0_1_2, y0_1_3, y0_1_4, y0_1_5, y0_2_0, y0_2_1, y0_2_2, y0_2_3, y0_2_4, y0_2_5, y0_2_6, y0_2_7, y0_3_0, y0_3_1, y0_3_2⟩ : (xw5.alloc (.cells #[.int .i64 X, .int .i64 Y, .int .i64 Z] 49)).cell? ⟨w.heap.size, 0, none⟩ = some (.int .i64 0) ∧ (xw5.alloc (.cells #[.int .i64 X, .int .i64 Y, .int .i64 Z] 49)).cell? ⟨w.heap.size, 1, none⟩ = some (.int .i64 d) ∧ (xw5.alloc (.cells #[.int .i64 X, .int .i64 Y, .int .i64 Z] 49)).cell? ⟨w.heap.size, 2, none⟩ = some (.string ⟨#[]⟩) ∧ (xw5.alloc (.cells #[.int .i64 X, .int .i64 Y, .int .i64 Z] 49)).cell? ⟨w.heap.size, 3, none⟩ = some (.string tz) ∧ (xw5.alloc (.cells #[.int .i64 X, .int .i64 Y, .int .i64 Z] 49)).cell? ⟨w.heap.size, 4, none⟩ = some (.int .i64 o) ∧ (xw5.alloc (.cells #[.int .i64 X, .int .i64 Y, .int .i64 Z] 49)).cell? ⟨w.heap.size, 5, none⟩ = some (.int .i64 h) ∧ (xw5.alloc (.cells #[.int .i64 X, .int .i64 Y, .int .i64 Z] 49)).cell? ⟨w.heap.size, 6, none⟩ = some (.int .i64 am) ∧ (xw5.alloc (.cells #[.int .i64 X, .int .i64 Y, .int .i64 Z] 49)).cell? ⟨w.heap.size, 7, none⟩ = some (.bool pu) ∧ (xw5.alloc (.cells #[.int .i64 X, .int .i64 Y, .int .i64 Z] 49)).cell? ⟨vb, pb, none⟩ = some (.string sb) ∧ (xw5.alloc (.cells #[.int .i64 X, .int .i64 Y, .int .i64 Z] 49)).cell? ⟨vb, pb + 1, none⟩ = some (.int .i64 vo) ∧ (xw5.alloc (.cells #[.int .i64 X, .int .i64 Y, .int .i64 Z] 49)).cell? ⟨vb, pb + 2, none⟩ = some (.int .i64 mo) ∧ (xw5.alloc (.cells #[.int .i64 X, .int .i64 Y, .int .i64 Z] 49)).cell? ⟨vb, pb + 3, none⟩ = some (.int .i64 b0) ∧ (xw5.alloc (.cells #[.int .i64 X, .int .i64 Y, .int .i64 Z] 49)).cell? ⟨vb, pb + 4, none⟩ = some (.int .i64 b1) ∧ (xw5.alloc (.cells #[.int .i64 X, .int .i64 Y, .int .i64 Z] 49)).cell? ⟨vb, pb + 5, none⟩ = some (.int .i64 b2) ∧ (xw5.alloc (.cells #[.int .i64 X, .int .i64 Y, .int .i64 Z] 49)).cell? ⟨rb, 0, none⟩ = some (.slice (some ⟨vb, 0, none⟩) n cap) ∧ (xw5.alloc (.cells #[.int .i64 X, .int .i64 Y, .int .i64 Z] 49)).cell? ⟨rb, 1, none⟩ = some (.int .i64 g0) ∧ (xw5.alloc (.cells #[.int .i64 X, .int .i64 Y, .int .i64 Z] 49)).cell? ⟨rb, 2, none⟩ = some (.int .i64 g1) ∧ (xw5.alloc (.cells #[.int .i64 X, .int .i64 Y, .int .i64 Z] 49)).cell? ⟨rb, 3, none⟩ = some (.int .i64 g2) ∧ (xw5.alloc (.cells #[.int .i64 X, .int .i64 Y, .int .i64 Z] 49)).cell? ⟨rb, 4, none⟩ = some (.int .i64 k0) ∧ (xw5.alloc (.cells #[.int .i64 X, .int .i64 Y, .int .i64 Z] 49)).cell? ⟨rb, 5, none⟩ = some (.int .i64 k1) ∧ (xw5.alloc (.cells #[.int .i64 X, .int .i64 Y, .int .i64 Z] 49)).cell? ⟨rb, 6, none⟩ = some (.int .i64 k2) ∧ (xw5.alloc (.cells #[.int .i64 X, .int .i64 Y, .int .i64 Z] 49)).cell? ⟨rb, 7, none⟩ = some (.int .i64 day) ∧ (xw5.alloc (.cells #[.int .i64 X, .int .i64 Y, .int .i64 Z] 49)).cell? ⟨xw5.heap.size, 0, none⟩ = some (.int .i64 X) ∧ (xw5.alloc (.cells #[.int .i64 X, .int .i64 Y, .int .i64 Z] 49)).cell? ⟨xw5.heap.size, 1, none⟩ = some (.int .i64 Y) ∧ (xw5.alloc (.cells #[.int .i64 X, .int .i64 Y, .int .i64 Z] 49)).cell? ⟨xw5.heap.size, 2, none⟩ = some (.int .i64 Z) := by refine ⟨?_, ?_, ?_, ?_, ?_, ?_, ?_, ?_, ?_, ?_, ?_, ?_, ?_, ?_, ?_, ?_, ?_, ?_, ?_, ?_, ?_, ?_, ?_, ?_, ?_⟩ <;> (simp [go_sem, cP, *])
    obtain ⟨y0f1, y0f2, y0f3⟩ : (∀ j, (xw5.alloc (.cells #[.int .i64 X, .int .i64 Y, .int .i64 Z] 49)).frozen? ⟨vb, j, none⟩ = false) ∧ (∀ j, (xw5.alloc (.cells #[.int .i64 X, .int .i64 Y, .int .i64 Z] 49)).frozen? ⟨rb, j, none⟩ = false) ∧ (∀ j, (xw5.alloc (.cells #[.int .i64 X, .int .i64 Y, .int .i64 Z] 49)).frozen? ⟨xw5.heap.size, j, none⟩ = false) := by refine ⟨?_, ?_, ?_⟩ <;> (intro j; simp [go_sem, *])
    have hzy0 : (xw5.alloc (.cells #[.int .i64 X, .int .i64 Y, .int .i64 Z] 49)).heap.size = xw5.heap.size + 1 := by simp
    have hDy0 : BelowD rb vb w.heap.size w (xw5.alloc (.cells #[.int .i64 X, .int .i64 Y, .int .i64 Z] 49)) := BelowD.of (hBx5.alloc hBx5.size _) (Nat.le_refl _)
    have hVy0 : ∀ q, q ≠ pb + 3 → q ≠ pb + 4 → q ≠ pb + 5 → (xw5.alloc (.cells #[.int .i64 X, .int .i64 Y, .int .i64 Z] 49)).cell? ⟨vb, q, none⟩ = w.cell? ⟨vb, q, none⟩ := fun q u0 u1 u2 => (hBx5.alloc hBx5.size _).cell (p := ⟨vb, q, none⟩) lv
    generalize hWy0 : xw5.alloc (.cells #[.int .i64 X, .int .i64 Y, .int .i64 Z] 49) = y0 at *
    clear hWy0
    have ly0 : w.heap.size < xw5.heap.size := by omega
    have ly1 : vb < xw5.heap.size := by omega
    have ly2 : rb < xw5.heap.size := by omega
    clear x5_0_0 x5_0_1 x5_0_2 x5_0_3 x5_0_4 x5_0_5 x5_0_6 x5_0_7 x5_1_0 x5_1_1 x5_1_2 x5_1_3 x5_1_4 x5_1_5 x5_2_0 x5_2_1 x5_2_2 x5_2_3 x5_2_4 x5_2_5 x5_2_6 x5_2_7 x5f1 x5f2 x5o0 x5n0 x5t0_0 x5t0_1 x5o1 x5n1 x5t1_0 x5t1_1 x5o2 x5n2 x5t2_0 x5t2_1 hBx5
    generalize htb : xw5.heap.size = tb at *
    clear htb
    have mm1 : w.heap.size ≠ tb := by omega
    have mm2 : vb ≠ tb := by omega
    have m3 : rb ≠ tb := by omega
    have m4 : tb ≠ w.heap.size := by omega
    have m5 : tb ≠ vb := by omega
    have m6 : tb ≠ rb := by omega
    have q1 : w.heap.size < y0.heap.size := by omega
    have q2 : vb < y0.heap.size := by omega
    have q3 : rb < y0.heap.size := by omega
    have q4 : tb < y0.heap.size := by omega
    refine wp_region_Z (S := (fun w' => w'.cell? ⟨rb, 1, none⟩ = some (.int .i64 g0) ∧ w'.cell? ⟨rb, 2, none⟩ = some (.int .i64 g1) ∧ w'.cell? ⟨rb, 3, none⟩ = some (.int .i64 g2) ∧ w'.cell? ⟨tb, 0, none⟩ = some (.int .i64 X) ∧ w'.cell? ⟨tb, 1, none⟩ = some (.int .i64 Y) ∧ w'.cell? ⟨tb, 2, none⟩ = some (.int .i64 Z))) 11 (by kernel_rfl) (by kernel_rfl) (by kernel_rfl) (by simp [go_sem, cP, *]) (fun hHeld => ?_)
    refine wpAnyZ_take (i := 0) (oi := ⟨some 55, _, _, _, _, _⟩) (v := ?_) (by kernel_rfl) (by kernel_rfl) rfl rfl (by kernel_rfl) (by kernel_rfl) (by kernel_rfl) (fun _ _ _ h => h) (Or.inl ⟨by kernel_rfl, ?_⟩) (by assumption) ?_
    rotate_left
    · (intro w hSw; (try dsimp only at hSw); go_simp; all_goals with_reducible rfl)
    try simp only [Act.put, List.setIfInBounds_toArray, List.set_cons_zero, List.set_cons_succ]
    refine wpAnyZ_take (i := 1) (oi := ⟨some 56, _, _, _, _, _⟩) (v := ?_) (by kernel_rfl) (by kernel_rfl) rfl rfl (by kernel_rfl) (by kernel_rfl) (by kernel_rfl) (fun _ _ _ h => h) (Or.inl ⟨by kernel_rfl, ?_⟩) (by assumption) ?_
    rotate_left
    · (intro w hSw; (try dsimp only at hSw); go_simp; all_goals with_reducible rfl)
    try simp only [Act.put, List.setIfInBounds_toArray, List.set_cons_zero, List.set_cons_succ]
    refine wpAnyZ_take (i := 2) (oi := ⟨some 57, _, _, _, _, _⟩) (v := ?_) (by kernel_rfl) (by kernel_rfl) rfl rfl (by kernel_rfl) (by kernel_rfl) (by kernel_rfl) (fun _ _ _ h => h) (Or.inl ⟨by kernel_rfl, ?_⟩) (by assumption) ?_
    rotate_left
    · (intro w hSw; (try dsimp only at hSw); go_simp; all_goals with_reducible rfl)
    try simp only [Act.put, List.setIfInBounds_toArray, List.set_cons_zero, List.set_cons_succ]
    refine wpAnyZ_take (i := 3) (oi := ⟨some 58, _, _, _, _, _⟩) (v := ?_) (by kernel_rfl) (by kernel_rfl) rfl rfl (by kernel_rfl) (by kernel_rfl) (by kernel_rfl) (fun _ _ _ h => h) (Or.inl ⟨by kernel_rfl, ?_⟩) (by assumption) ?_
    rotate_left
    · (intro w hSw; (try dsimp only at hSw); go_simp; all_goals with_reducible rfl)
    try simp only [Act.put, List.setIfInBounds_toArray, List.set_cons_zero, List.set_cons_succ]
    refine wpAnyZ_take (i := 4) (oi := ⟨some 59, _, _, _, _, _⟩) (v := ?_) (by kernel_rfl) (by kernel_rfl) rfl rfl (by kernel_rfl) (by kernel_rfl) (by kernel_rfl) (fun _ _ _ h => h) (Or.inl ⟨by kernel_rfl, ?_⟩) (by assumption) ?_
    rotate_left
    · (intro w hSw; (try dsimp only at hSw); go_simp; all_goals with_reducible rfl)
    try simp only [Act.put, List.setIfInBounds_toArray, List.set_cons_zero, List.set_cons_succ]
    refine wpAnyZ_take (i := 5) (oi := ⟨some 60, _, _, _, _, _⟩) (v := ?_) (by kernel_rfl) (by kernel_rfl) rfl rfl (by kernel_rfl) (by kernel_rfl) (by kernel_rfl) (fun _ _ _ h => h) (Or.inl ⟨by kernel_rfl, ?_⟩) (by assumption) ?_
    rotate_left
    · (intro w hSw; (try dsimp only at hSw); go_simp; all_goals with_reducible rfl)
    try simp only [Act.put, List.setIfInBounds_toArray, List.set_cons_zero, List.set_cons_succ]
    refine wpAnyZ_take (i := 6) (oi := ⟨some 61, _, _, _, _, _⟩) (v := ?_) (by kernel_rfl) (by kernel_rfl) rfl rfl (by kernel_rfl) (by kernel_rfl) (by kernel_rfl) (fun _ _ _ h => h) (Or.inl ⟨by kernel_rfl, ?_⟩) (by assumption) ?_
    rotate_left
    · (intro w hSw; (try dsimp only at hSw); go_simp; all_goals with_reducible rfl)
    try simp only [Act.put, List.setIfInBounds_toArray, List.set_cons_zero, List.set_cons_succ]
    refine wpAnyZ_call (q := 7) (by kernel_rfl) rfl rfl (fun K hK => ?_)
    go_simp
    refine (plus_any g0 g1 g2 X Y Z G0 G1 G2 _ (by omega) (by omega) (by omega) (by omega) (by omega) (by omega) (by omega) (by omega) (by omega) (by omega) (by omega) (by omega) hI).mono ?_
    rintro e p1w1 ⟨rfl, hbp11⟩
    have zp11 := hbp11.size
    try simp at zp11
    obtain ⟨p11_0_0, p11_0_1, p11_0_2, p11_0_3, p11_0_4, p11_0_5, p11_0_6, p11_0_7, p11_1_0, p11_1_1, p11_1_2, p11_1_3, p11_1_4, p11_1_5, p11_2_0, p11_2_1, p11_2_2, p11_2_3, p11_2_4, p11_2_5, p11_2_6, p11_2_7, p11_3_0, p11_3_1, p11_3_2⟩ : p1w1.cell? ⟨w.heap.size, 0, none⟩ = some (.int .i64 0) ∧ p1w1.cell? ⟨w.heap.size, 1, none⟩ = some (.int .i64 d) ∧ p1w1.cell? ⟨w.heap.size, 2, none⟩ = some (.string ⟨#[]⟩) ∧ p1w1.cell? ⟨w.heap.size, 3, none⟩ = some (.string tz) ∧ p1w1.cell? ⟨w.heap.size, 4, none⟩ = some (.int .i64 o) ∧ p1w1.cell? ⟨w.heap.size, 5, none⟩ = some (.int .i64 h) ∧ p1w1.cell? ⟨w.heap.size, 6, none⟩ = some (.int .i64 am) ∧ p1w1.cell? ⟨w.heap.size, 7, none⟩ = some (.bool pu) ∧ p1w1.cell? ⟨vb, pb, none⟩ = some (.string sb) ∧ p1w1.cell? ⟨vb, pb + 1, none⟩ = some (.int .i64 vo) ∧ p1w1.cell? ⟨vb, pb + 2, none⟩ = some (.int .i64 mo) ∧ p1w1.cell? ⟨vb, pb + 3, none⟩ = some (.int .i64 b0) ∧ p1w1.cell? ⟨vb, pb + 4, none⟩ = some (.int .i64 b1) ∧ p1w1.cell? ⟨vb, pb + 5, none⟩ = some (.int .i64 b2) ∧ p1w1.cell? ⟨rb, 0, none⟩ = some (.slice (some ⟨vb, 0, none⟩) n cap) ∧ p1w1.cell? ⟨rb, 1, none⟩ = some (.int .i64 g0) ∧ p1w1.cell? ⟨rb, 2, none⟩ = some (.int .i64 g1) ∧ p1w1.cell? ⟨rb, 3, none⟩ = some (.int .i64 g2) ∧ p1w1.cell? ⟨rb, 4, none⟩ = some (.int .i64 k0) ∧ p1w1.cell? ⟨rb, 5, none⟩ = some (.int .i64 k1) ∧ p1w1.cell? ⟨rb, 6, none⟩ = some (.int .i64 k2) ∧ p1w1.cell? ⟨rb, 7, none⟩ = some (.int .i64 day) ∧ p1w1.cell? ⟨tb, 0, none⟩ = some (.int .i64 X) ∧ p1w1.cell? ⟨tb, 1, none⟩ = some (.int .i64 Y) ∧ p1w1.cell? ⟨tb, 2, none⟩ = some (.int .i64 Z) := by refine ⟨?_, ?_, ?_, ?_, ?_, ?_, ?_, ?_, ?_, ?_, ?_, ?_, ?_, ?_, ?_, ?_, ?_, ?_, ?_, ?_, ?_, ?_, ?_, ?_, ?_⟩ <;> (rw [(bcell hbp11).1 _ _ (by first | (simp; done) | (simp; omega) | omega)]; simp [go_sem, cP, *])
    obtain ⟨p11f1, p11f2, p11f3⟩ : (∀ j, p1w1.frozen? ⟨vb, j, none⟩ = false) ∧ (∀ j, p1w1.frozen? ⟨rb, j, none⟩ = false) ∧ (∀ j, p1w1.frozen? ⟨tb, j, none⟩ = false) := by refine ⟨?_, ?_, ?_⟩ <;> (intro j; rw [(bcell hbp11).2 _ _ (by first | (simp; done) | (simp; omega) | omega)]; simp [go_sem, *])
    obtain ⟨p11o0, p11n0, p11o1, p11n1, p11o2, p11n2, p11o3, p11n3⟩ : w.heap.size < p1w1.heap.size ∧ p1w1.heap.size ≠ w.heap.size ∧ vb < p1w1.heap.size ∧ p1w1.heap.size ≠ vb ∧ rb < p1w1.heap.size ∧ p1w1.heap.size ≠ rb ∧ tb < p1w1.heap.size ∧ p1w1.heap.size ≠ tb := by refine ⟨?_, ?_, ?_, ?_, ?_, ?_, ?_, ?_⟩ <;> omega
    have hBp11 : Below y0.heap.size y0 p1w1 := belA
    clear hbp11 y0_0_0 y0_0_1 y0_0_2 y0_0_3 y0_0_4 y0_0_5 y0_0_6 y0_0_7 y0_1_0 y0_1_1 y0_1_2 y0_1_3 y0_1_4 y0_1_5 y0_2_0 y0_2_1 y0_2_2 y0_2_3 y0_2_4 y0_2_5 y0_2_6 y0_2_7 y0_3_0 y0_3_1 y0_3_2 y0f1 y0f2 y0f3 q1 q2 q3 q4
    go_wp2_with fail
    refine hK.out _ _ (by simp [go_sem, cP, *]) (fun hHeld => ?_)
    clear hK K
    try simp only [Act.put, List.setIfInBounds_toArray, List.set_cons_zero, List.set_cons_succ]
    refine wpAnyZ_take (i := 8) (oi := ⟨some 63, _, _, _, _, _⟩) (v := ?_) (by kernel_rfl) (by kernel_rfl) rfl rfl (by kernel_rfl) (by kernel_rfl) (by kernel_rfl) (fun _ _ _ h => h) (Or.inl ⟨by kernel_rfl, ?_⟩) (by assumption) ?_
    rotate_left
    · (intro w hSw; (try dsimp only at hSw); go_simp; all_goals with_reducible rfl)
    try simp only [Act.put, List.setIfInBounds_toArray, List.set_cons_zero, List.set_cons_succ]
    refine wpAnyZ_take (i := 9) (oi := ⟨some 64, _, _, _, _, _⟩) (v := ?_) (by kernel_rfl) (by kernel_rfl) rfl rfl (by kernel_rfl) (by kernel_rfl) (by kernel_rfl) (fun _ _ _ h => h) (Or.inl ⟨by kernel_rfl, ?_⟩) (by assumption) ?_
    rotate_left
    · (intro w hSw; (try dsimp only at hSw); go_simp; all_goals with_reducible rfl)
    try simp only [Act.put, List.setIfInBounds_toArray, List.set_cons_zero, List.set_cons_succ]
    refine wpAnyZ_take (i := 10) (oi := ⟨some 65, _, _, _, _, _⟩) (v := ?_) (by kernel_rfl) (by kernel_rfl) rfl rfl (by kernel_rfl) (by kernel_rfl) (by kernel_rfl) (fun _ _ _ h => h) (Or.inl ⟨by kernel_rfl, ?_⟩) (by assumption) ?_
    rotate_left
    · (intro w hSw; (try dsimp only at hSw); go_simp; all_goals with_reducible rfl)
    try simp only [Act.put, List.setIfInBounds_toArray, List.set_cons_zero, List.set_cons_succ]
    refine wpAnyZ_last (by kernel_rfl) rfl (fun K hK => ?_)
    go_simp
    go_wp2_with fail
    refine hK.out _ _ ?_
    clear hK K
    try simp only [Act.put, List.setIfInBounds_toArray, List.set_cons_zero, List.set_cons_succ]
    obtain ⟨y1_0_0, y1_0_1, y1_0_2, y1_0_3, y1_0_4, y1_0_5, y1_0_6, y1_0_7, y1_1_0, y1_1_1, y1_1_2, y1_1_3, y1_1_4, y1_1_5, y1_2_0, y1_2_1, y1_2_2, y1_2_3, y1_2_4, y1_2_5, y1_2_6, y1_2_7, y1_3_0, y1_3_1, y1_3_2⟩ : (((p1w1.setCell ⟨rb, 1, none⟩ (.int .i64 G0)).setCell ⟨rb, 2, none⟩ (.int .i64 G1)).setCell ⟨rb, 3, none⟩ (.int .i64 G2)).cell? ⟨w.heap.size, 0, none⟩ = some (.int .i64 0) ∧ (((p1w1.setCell ⟨rb, 1, none⟩ (.int .i64 G0)).setCell ⟨rb, 2, none⟩ (.int .i64 G1)).setCell ⟨rb, 3, none⟩ (.int .i64 G2)).cell? ⟨w.heap.size, 1, none⟩ = some (.int .i64 d) ∧ (((p1w1.setCell ⟨rb, 1, none⟩ (.int .i64 G0)).setCell ⟨rb, 2, none⟩ (.int .i64 G1)).setCell ⟨rb, 3, none⟩ (.int .i64 G2)).cell? ⟨w.heap.size, 2, none⟩ = some (.string ⟨#[]⟩) ∧ (((p1w1.setCell ⟨rb, 1, none⟩ (.int .i64 G0)).setCell ⟨rb, 2, none⟩ (.int .i64 G1)).setCell ⟨rb, 3, none⟩ (.int .i64 G2)).cell? ⟨w.heap.size, 3, none⟩ = some (.string tz) ∧ (((p1w1.setCell ⟨rb, 1, none⟩ (.int .i64 G0)).setCell ⟨rb, 2, none⟩ (.int .i64 G1)).setCell ⟨rb, 3, none⟩ (.int .i64 G2)).cell? ⟨w.heap.size, 4, none⟩ = some (.int .i64 o) ∧ (((p1w1.setCell ⟨rb, 1, none⟩ (.int .i64 G0)).setCell ⟨rb, 2, none⟩ (.int .i64 G1)).setCell ⟨rb, 3, none⟩ (.int .i64 G2)).cell? ⟨w.heap.size, 5, none⟩ = some (.int .i64 h) ∧ (((p1w1.setCell ⟨rb, 1, none⟩ (.int .i64 G0)).setCell ⟨rb, 2, none⟩ (.int .i64 G1)).setCell ⟨rb, 3, none⟩ (.int .i64 G2)).cell? ⟨w.heap.size, 6, none⟩ = some (.int .i64 am) ∧ (((p1w1.setCell ⟨rb, 1, none⟩ (.int .i64 G0)).setCell ⟨rb, 2, none⟩ (.int .i64 G1)).setCell ⟨rb, 3, none⟩ (.int .i64 G2)).cell? ⟨w.heap.size, 7, none⟩ = some (.bool pu) ∧ (((p1w1.setCell ⟨rb, 1, none⟩ (.int .i64 G0)).setCell ⟨rb, 2, none⟩ (.int .i64 G1)).setCell ⟨rb, 3, none⟩ (.int .i64 G2)).cell? ⟨vb, pb, none⟩ = some (.string sb) ∧ (((p1w1.setCell ⟨rb, 1, none⟩ (.int .i64 G0)).setCell ⟨rb, 2, none⟩ (.int .i64 G1)).setCell ⟨rb, 3, none⟩ (.int .i64 G2)).cell? ⟨vb, pb + 1, none⟩ = some (.int .i64 vo) ∧ (((p1w1.setCell ⟨rb, 1, none⟩ (.int .i64 G0)).setCell ⟨rb, 2, none⟩ (.int .i64 G1)).setCell ⟨rb, 3, none⟩ (.int .i64 G2)).cell? ⟨vb, pb + 2, none⟩ = some (.int .i64 mo) ∧ (((p1w1.setCell ⟨rb, 1, none⟩ (.int .i64 G0)).setCell ⟨rb, 2, none⟩ (.int .i64 G1)).setCell ⟨rb, 3, none⟩ (.int .i64 G2)).cell? ⟨vb, pb + 3, none⟩ = some (.int .i64 b0) ∧ (((p1w1.setCell ⟨rb, 1, none⟩ (.int .i64 G0)).setCell ⟨rb, 2, none⟩ (.int .i64 G1)).setCell ⟨rb, 3, none⟩ (.int .i64 G2)).cell? ⟨vb, pb + 4, none⟩ = some (.int .i64 b1) ∧ (((p1w1.setCell ⟨rb, 1, none⟩ (.int .i64 G0)).setCell ⟨rb, 2, none⟩ (.int .i64 G1)).setCell ⟨rb, 3, none⟩ (.int .i64 G2)).cell? ⟨vb, pb + 5, none⟩ = some (.int .i64 b2) ∧ (((p1w1.setCell ⟨rb, 1, none⟩ (.int .i64 G0)).setCell ⟨rb, 2, none⟩ (.int .i64 G1)).setCell ⟨rb, 3, none⟩ (.int .i64 G2)).cell? ⟨rb, 0, none⟩ = some (.slice (some ⟨vb, 0, none⟩) n cap) ∧ (((p1w1.setCell ⟨rb, 1, none⟩ (.int .i64 G0)).setCell ⟨rb, 2, none⟩ (.int .i64 G1)).setCell ⟨rb, 3, none⟩ (.int .i64 G2)).cell? ⟨rb, 1, none⟩ = some (.int .i64 G0) ∧ (((p1w1.setCell ⟨rb, 1, none⟩ (.int .i64 G0)).setCell ⟨rb, 2, none⟩ (.int .i64 G1)).setCell ⟨rb, 3, none⟩ (.int .i64 G2)).cell? ⟨rb, 2, none⟩ = some (.int .i64 G1) ∧ (((p1w1.setCell ⟨rb, 1, none⟩ (.int .i64 G0)).setCell ⟨rb, 2, none⟩ (.int .i64 G1)).setCell ⟨rb, 3, none⟩ (.int .i64 G2)).cell? ⟨rb, 3, none⟩ = some (.int .i64 G2) ∧ (((p1w1.setCell ⟨rb, 1, none⟩ (.int .i64 G0)).setCell ⟨rb, 2, none⟩ (.int .i64 G1)).setCell ⟨rb, 3, none⟩ (.int .i64 G2)).cell? ⟨rb, 4, none⟩ = some (.int .i64 k0) ∧ (((p1w1.setCell ⟨rb, 1, none⟩ (.int .i64 G0)).setCell ⟨rb, 2, none⟩ (.int .i64 G1)).setCell ⟨rb, 3, none⟩ (.int .i64 G2)).cell? ⟨rb, 5, none⟩ = some (.int .i64 k1) ∧ (((p1w1.setCell ⟨rb, 1, none⟩ (.int .i64 G0)).setCell ⟨rb, 2, none⟩ (.int .i64 G1)).setCell ⟨rb, 3, none⟩ (.int .i64 G2)).cell? ⟨rb, 6, none⟩ = some (.int .i64 k2) ∧ (((p1w1.setCell ⟨rb, 1, none⟩ (.int .i64 G0)).setCell ⟨rb, 2, none⟩ (.int .i64 G1)).setCell ⟨rb, 3, none⟩ (.int .i64 G2)).cell? ⟨rb, 7, none⟩ = some (.int .i64 day) ∧ (((p1w1.setCell ⟨rb, 1, none⟩ (.int .i64 G0)).setCell ⟨rb, 2, none⟩ (.int .i64 G1)).setCell ⟨rb, 3, none⟩ (.int .i64 G2)).cell? ⟨tb, 0, none⟩ = some (.int .i64 X) ∧ (((p1w1.setCell ⟨rb, 1, none⟩ (.int .i64 G0)).setCell ⟨rb, 2, none⟩ (.int .i64 G1)).setCell ⟨rb, 3, none⟩ (.int .i64 G2)).cell? ⟨tb, 1, none⟩ = some (.int .i64 Y) ∧ (((p1w1.setCell ⟨rb, 1, none⟩ (.int .i64 G0)).setCell ⟨rb, 2, none⟩ (.int .i64 G1)).setCell ⟨rb, 3, none⟩ (.int .i64 G2)).cell? ⟨tb, 2, none⟩ = some (.int .i64 Z) := by refine ⟨?_, ?_, ?_, ?_, ?_, ?_, ?_, ?_, ?_, ?_, ?_, ?_, ?_, ?_, ?_, ?_, ?_, ?_, ?_, ?_, ?_, ?_, ?_, ?_, ?_⟩ <;> (simp [go_sem, cP, *])
    obtain ⟨y1f1, y1f2, y1f3⟩ : (∀ j, (((p1w1.setCell ⟨rb, 1, none⟩ (.int .i64 G0)).setCell ⟨rb, 2, none⟩ (.int .i64 G1)).setCell ⟨rb, 3, none⟩ (.int .i64 G2)).frozen? ⟨vb, j, none⟩ = false) ∧ (∀ j, (((p1w1.setCell ⟨rb, 1, none⟩ (.int .i64 G0)).setCell ⟨rb, 2, none⟩ (.int .i64 G1)).setCell ⟨rb, 3, none⟩ (.int .i64 G2)).frozen? ⟨rb, j, none⟩ = false) ∧ (∀ j, (((p1w1.setCell ⟨rb, 1, none⟩ (.int .i64 G0)).setCell ⟨rb, 2, none⟩ (.int .i64 G1)).setCell ⟨rb, 3, none⟩ (.int .i64 G2)).frozen? ⟨tb, j, none⟩ = false) := by refine ⟨?_, ?_, ?_⟩ <;> (intro j; simp [go_sem, *])
    have hzy1 : (((p1w1.setCell ⟨rb, 1, none⟩ (.int .i64 G0)).setCell ⟨rb, 2, none⟩ (.int .i64 G1)).setCell ⟨rb, 3, none⟩ (.int .i64 G2)).heap.size = p1w1.heap.size := by simp
    have hDy1 : BelowD rb vb w.heap.size w (((p1w1.setCell ⟨rb, 1, none⟩ (.int .i64 G0)).setCell ⟨rb, 2, none⟩ (.int .i64 G1)).setCell ⟨rb, 3, none⟩ (.int .i64 G2)) := (((hDy0.trans (BelowD.of hBp11 (by omega))).set rb (1) _ (Or.inl rfl)).set rb (2) _ (Or.inl rfl)).set rb (3) _ (Or.inl rfl)
    have hVy1 : ∀ q, q ≠ pb + 3 → q ≠ pb + 4 → q ≠ pb + 5 → (((p1w1.setCell ⟨rb, 1, none⟩ (.int .i64 G0)).setCell ⟨rb, 2, none⟩ (.int .i64 G1)).setCell ⟨rb, 3, none⟩ (.int .i64 G2)).cell? ⟨vb, q, none⟩ = w.cell? ⟨vb, q, none⟩ := fun q u0 u1 u2 => by rw [sblk (by first | assumption | omega), sblk (by first | assumption | omega), sblk (by first | assumption | omega), hBp11.cell (p := ⟨vb, q, none⟩) (by show vb < _; omega)]; exact hVy0 q u0 u1 u2
    have zsy1 : y0.heap.size ≤ (((p1w1.setCell ⟨rb, 1, none⟩ (.int .i64 G0)).setCell ⟨rb, 2, none⟩ (.int .i64 G1)).setCell ⟨rb, 3, none⟩ (.int .i64 G2)).heap.size := by rw [hzy1]; exact hBp11.size
    clear p11_0_0 p11_0_1 p11_0_2 p11_0_3 p11_0_4 p11_0_5 p11_0_6 p11_0_7 p11_1_0 p11_1_1 p11_1_2 p11_1_3 p11_1_4 p11_1_5 p11_2_0 p11_2_1 p11_2_2 p11_2_3 p11_2_4 p11_2_5 p11_2_6 p11_2_7 p11_3_0 p11_3_1 p11_3_2 p11f1 p11f2 p11f3 p11o0 p11n0 p11o1 p11n1 p11o2 p11n2 p11o3 p11n3 hBp11
    generalize hWy1 : ((p1w1.setCell ⟨rb, 1, none⟩ (.int .i64 G0)).setCell ⟨rb, 2, none⟩ (.int .i64 G1)).setCell ⟨rb, 3, none⟩ (.int .i64 G2) = y1 at *
    clear hWy1
    have q1y1 : w.heap.size < y1.heap.size := by omega
    have q2y1 : vb < y1.heap.size := by omega
    have q3y1 : rb < y1.heap.size := by omega
    have q4y1 : tb < y1.heap.size := by omega
    go_upto_region 14 with (fail)
    refine wp_region_Z (S := (fun w' => w'.cell? ⟨vb, pb + 3, none⟩ = some (.int .i64 b0) ∧ w'.cell? ⟨vb, pb + 4, none⟩ = some (.int .i64 b1) ∧ w'.cell? ⟨vb, pb + 5, none⟩ = some (.int .i64 b2) ∧ w'.cell? ⟨tb, 0, none⟩ = some (.int .i64 X) ∧ w'.cell? ⟨tb, 1, none⟩ = some (.int .i64 Y) ∧ w'.cell? ⟨tb, 2, none⟩ = some (.int .i64 Z))) 9 (by kernel_rfl) (by kernel_rfl) (by kernel_rfl) (by simp [go_sem, cP, *]) (fun hHeld => ?_)
    refine wpAnyZ_take (i := 0) (oi := ⟨some 68, _, _, _, _, _⟩) (v := ?_) (by kernel_rfl) (by kernel_rfl) rfl rfl (by kernel_rfl) (by kernel_rfl) (by kernel_rfl) (fun _ _ _ h => h) (Or.inl ⟨by kernel_rfl, ?_⟩) (by assumption) ?_
    rotate_left
    · (intro w hSw; (try dsimp only at hSw); go_simp; all_goals with_reducible rfl)
    try simp only [Act.put, List.setIfInBounds_toArray, List.set_cons_zero, List.set_cons_succ]
    refine wpAnyZ_take (i := 1) (oi := ⟨some 69, _, _, _, _, _⟩) (v := ?_) (by kernel_rfl) (by kernel_rfl) rfl rfl (by kernel_rfl) (by kernel_rfl) (by kernel_rfl) (fun _ _ _ h => h) (Or.inl ⟨by kernel_rfl, ?_⟩) (by assumption) ?_
    rotate_left
    · (intro w hSw; (try dsimp only at hSw); go_simp; all_goals with_reducible rfl)
    try simp only [Act.put, List.setIfInBounds_toArray, List.set_cons_zero, List.set_cons_succ]
    refine wpAnyZ_take (i := 2) (oi := ⟨some 70, _, _, _, _, _⟩) (v := ?_) (by kernel_rfl) (by kernel_rfl) rfl rfl (by kernel_rfl) (by kernel_rfl) (by kernel_rfl) (fun _ _ _ h => h) (Or.inl ⟨by kernel_rfl, ?_⟩) (by assumption) ?_
    rotate_left
    · (intro w hSw; (try dsimp only at hSw); go_simp; all_goals with_reducible rfl)
    try simp only [Act.put, List.setIfInBounds_toArray, List.set_cons_zero, List.set_cons_succ]
    refine wpAnyZ_take (i := 3) (oi := ⟨some 71, _, _, _, _, _⟩) (v := ?_) (by kernel_rfl) (by kernel_rfl) rfl rfl (by kernel_rfl) (by kernel_rfl) (by kernel_rfl) (fun _ _ _ h => h) (Or.inl ⟨by kernel_rfl, ?_⟩) (by assumption) ?_
    rotate_left
    · (intro w hSw; (try dsimp only at hSw); go_simp; all_goals with_reducible rfl)
    try simp only [Act.put, List.setIfInBounds_toArray, List.set_cons_zero, List.set_cons_succ]
    refine wpAnyZ_take (i := 4) (oi := ⟨some 72, _, _, _, _, _⟩) (v := ?_) (by kernel_rfl) (by kernel_rfl) rfl rfl (by kernel_rfl) (by kernel_rfl) (by kernel_rfl) (fun _ _ _ h => h) (Or.inl ⟨by kernel_rfl, ?_⟩) (by assumption) ?_
    rotate_left
    · (intro w hSw; (try dsimp only at hSw); go_simp; all_goals with_reducible rfl)
    try simp only [Act.put, List.setIfInBounds_toArray, List.set_cons_zero, List.set_cons_succ]
    refine wpAnyZ_take (i := 5) (oi := ⟨some 73, _, _, _, _, _⟩) (v := ?_) (by kernel_rfl) (by kernel_rfl) rfl rfl (by kernel_rfl) (by kernel_rfl) (by kernel_rfl) (fun _ _ _ h => h) (Or.inl ⟨by kernel_rfl, ?_⟩) (by assumption) ?_
    rotate_left
    · (intro w hSw; (try dsimp only at hSw); go_simp; all_goals with_reducible rfl)
    try simp only [Act.put, List.setIfInBounds_toArray, List.set_cons_zero, List.set_cons_succ]
    refine wpAnyZ_call (q := 6) (by kernel_rfl) rfl rfl (fun K hK => ?_)
    go_simp
    refine (plus_any b0 b1 b2 X Y Z c0 c1 c2 _ (by omega) (by omega) (by omega) (by omega) (by omega) (by omega) (by omega) (by omega) (by omega) (by omega) (by omega) (by omega) hC).mono ?_
    rintro e p2w1 ⟨rfl, hbp21⟩
    have zp21 := hbp21.size
    try simp at zp21
    obtain ⟨p21_0_0, p21_0_1, p21_0_2, p21_0_3, p21_0_4, p21_0_5, p21_0_6, p21_0_7, p21_1_0, p21_1_1, p21_1_2, p21_1_3, p21_1_4, p21_1_5, p21_2_0, p21_2_1, p21_2_2, p21_2_3, p21_2_4, p21_2_5, p21_2_6, p21_2_7, p21_3_0, p21_3_1, p21_3_2⟩ : p2w1.cell? ⟨w.heap.size, 0, none⟩ = some (.int .i64 0) ∧ p2w1.cell? ⟨w.heap.size, 1, none⟩ = some (.int .i64 d) ∧ p2w1.cell? ⟨w.heap.size, 2, none⟩ = some (.string ⟨#[]⟩) ∧ p2w1.cell? ⟨w.heap.size, 3, none⟩ = some (.string tz) ∧ p2w1.cell? ⟨w.heap.size, 4, none⟩ = some (.int .i64 o) ∧ p2w1.cell? ⟨w.heap.size, 5, none⟩ = some (.int .i64 h) ∧ p2w1.cell? ⟨w.heap.size, 6, none⟩ = some (.int .i64 am) ∧ p2w1.cell? ⟨w.heap.size, 7, none⟩ = some (.bool pu) ∧ p2w1.cell? ⟨vb, pb, none⟩ = some (.string sb) ∧ p2w1.cell? ⟨vb, pb + 1, none⟩ = some (.int .i64 vo) ∧ p2w1.cell? ⟨vb, pb + 2, none⟩ = some (.int .i64 mo) ∧ p2w1.cell? ⟨vb, pb + 3, none⟩ = some (.int .i64 b0) ∧ p2w1.cell? ⟨vb, pb + 4, none⟩ = some (.int .i64 b1) ∧ p2w1.cell? ⟨vb, pb + 5, none⟩ = some (.int .i64 b2) ∧ p2w1.cell? ⟨rb, 0, none⟩ = some (.slice (some ⟨vb, 0, none⟩) n cap) ∧ p2w1.cell? ⟨rb, 1, none⟩ = some (.int .i64 G0) ∧ p2w1.cell? ⟨rb, 2, none⟩ = some (.int .i64 G1) ∧ p2w1.cell? ⟨rb, 3, none⟩ = some (.int .i64 G2) ∧ p2w1.cell? ⟨rb, 4, none⟩ = some (.int .i64 k0) ∧ p2w1.cell? ⟨rb, 5, none⟩ = some (.int .i64 k1) ∧ p2w1.cell? ⟨rb, 6, none⟩ = some (.int .i64 k2) ∧ p2w1.cell? ⟨rb, 7, none⟩ = some (.int .i64 day) ∧ p2w1.cell? ⟨tb, 0, none⟩ = some (.int .i64 X) ∧ p2w1.cell? ⟨tb, 1, none⟩ = some (.int .i64 Y) ∧ p2w1.cell? ⟨tb, 2, none⟩ = some (.int .i64 Z) := by refine ⟨?_, ?_, ?_, ?_, ?_, ?_, ?_, ?_, ?_, ?_, ?_, ?_, ?_, ?_, ?_, ?_, ?_, ?_, ?_, ?_, ?_, ?_, ?_, ?_, ?_⟩ <;> (rw [(bcell hbp21).1 _ _ (by first | (simp; done) | (simp; omega) | omega)]; simp [go_sem, cP, *])
    obtain ⟨p21f1, p21f2, p21f3⟩ : (∀ j, p2w1.frozen? ⟨vb, j, none⟩ = false) ∧ (∀ j, p2w1.frozen? ⟨rb, j, none⟩ = false) ∧ (∀ j, p2w1.frozen? ⟨tb, j, none⟩ = false) := by refine ⟨?_, ?_, ?_⟩ <;> (intro j; rw [(bcell hbp21).2 _ _ (by first | (simp; done) | (simp; omega) | omega)]; simp [go_sem, *])
    obtain ⟨p21o0, p21n0, p21o1, p21n1, p21o2, p21n2, p21o3, p21n3⟩ : w.heap.size < p2w1.heap.size ∧ p2w1.heap.size ≠ w.heap.size ∧ vb < p2w1.heap.size ∧ p2w1.heap.size ≠ vb ∧ rb < p2w1.heap.size ∧ p2w1.heap.size ≠ rb ∧ tb < p2w1.heap.size ∧ p2w1.heap.size ≠ tb := by refine ⟨?_, ?_, ?_, ?_, ?_, ?_, ?_, ?_⟩ <;> omega
    have hBp21 : Below y1.heap.size y1 p2w1 := belA
    clear hbp21 y1_0_0 y1_0_1 y1_0_2 y1_0_3 y1_0_4 y1_0_5 y1_0_6 y1_0_7 y1_1_0 y1_1_1 y1_1_2 y1_1_3 y1_1_4 y1_1_5 y1_2_0 y1_2_1 y1_2_2 y1_2_3 y1_2_4 y1_2_5 y1_2_6 y1_2_7 y1_3_0 y1_3_1 y1_3_2 y1f1 y1f2 y1f3 q1y1 q2y1 q3y1 q4y1
    go_wp2_with fail
    refine hK.out _ _ (by simp [go_sem, cP, *]) (fun hHeld => ?_)
    clear hK K
    try simp only [Act.put, List.setIfInBounds_toArray, List.set_cons_zero, List.set_cons_succ]
    refine wpAnyZ_take (i := 7) (oi := ⟨some 75, _, _, _, _, _⟩) (v := ?_) (by kernel_rfl) (by kernel_rfl) rfl rfl (by kernel_rfl) (by kernel_rfl) (by kernel_rfl) (fun _ _ _ h => h) (Or.inl ⟨by kernel_rfl, ?_⟩) (by assumption) ?_
    rotate_left
    · (intro w hSw; (try dsimp only at hSw); go_simp; all_goals with_reducible rfl)
    try simp only [Act.put, List.setIfInBounds_toArray, List.set_cons_zero, List.set_cons_succ]
    refine wpAnyZ_take (i := 8) (oi := ⟨some 76, _, _, _, _, _⟩) (v := ?_) (by kernel_rfl) (by kernel_rfl) rfl rfl (by kernel_rfl) (by kernel_rfl) (by kernel_rfl) (fun _ _ _ h => h) (Or.inl ⟨by kernel_rfl, ?_⟩) (by assumption) ?_
    rotate_left
    · (intro w hSw; (try dsimp only at hSw); go_simp; all_goals with_reducible rfl)
    try simp only [Act.put, List.setIfInBounds_toArray, List.set_cons_zero, List.set_cons_succ]
    refine wpAnyZ_last (by kernel_rfl) rfl (fun K hK => ?_)
    go_simp
    go_wp2_with fail
    refine hK.out _ _ ?_
    clear hK K
    try simp only [Act.put, List.setIfInBounds_toArray, List.set_cons_zero, List.set_cons_succ]
    obtain ⟨y2_0_0, y2_0_1, y2_0_2, y2_0_3, y2_0_4, y2_0_5, y2_0_6, y2_0_7, y2_1_0, y2_1_1, y2_1_2, y2_1_3, y2_1_4, y2_1_5, y2_2_0, y2_2_1, y2_2_2, y2_2_3, y2_2_4, y2_2_5, y2_2_6, y2_2_7, y2_3_0, y2_3_1, y2_3_2⟩ : (((p2w1.setCell ⟨vb, pb + 3, none⟩ (.int .i64 c0)).setCell ⟨vb, pb + 4, none⟩ (.int .i64 c1)).setCell ⟨vb, pb + 5, none⟩ (.int .i64 c2)).cell? ⟨w.heap.size, 0, none⟩ = some (.int .i64 0) ∧ (((p2w1.setCell ⟨vb, pb + 3, none⟩ (.int .i64 c0)).setCell ⟨vb, pb + 4, none⟩ (.int .i64 c1)).setCell ⟨vb, pb + 5, none⟩ (.int .i64 c2)).cell? ⟨w.heap.size, 1, none⟩ = some (.int .i64 d) ∧ (((p2w1.setCell ⟨vb, pb + 3, none⟩ (.int .i64 c0)).setCell ⟨vb, pb + 4, none⟩ (.int .i64 c1)).setCell ⟨vb, pb + 5, none⟩ (.int .i64 c2)).cell? ⟨w.heap.size, 2, none⟩ = some (.string ⟨#[]⟩) ∧ (((p2w1.setCell ⟨vb, pb + 3, none⟩ (.int .i64 c0)).setCell ⟨vb, pb + 4, none⟩ (.int .i64 c1)).setCell ⟨vb, pb + 5, none⟩ (.int .i64 c2)).cell? ⟨w.heap.size, 3, none⟩ = some (.string tz) ∧ (((p2w1.setCell ⟨vb, pb + 3, none⟩ (.int .i64 c0)).setCell ⟨vb, pb + 4, none⟩ (.int .i64 c1)).setCell ⟨vb, pb + 5, none⟩ (.int .i64 c2)).cell? ⟨w.heap.size, 4, none⟩ = some (.int .i64 o) ∧ (((p2w1.setCell ⟨vb, pb + 3, none⟩ (.int .i64 c0)).setCell ⟨vb, pb + 4, none⟩ (.int .i64 c1)).setCell ⟨vb, pb + 5, none⟩ (.int .i64 c2)).cell? ⟨w.heap.size, 5, none⟩ = some (.int .i64 h) ∧ (((p2w1.setCell ⟨vb, pb + 3, none⟩ (.int .i64 c0)).setCell ⟨vb, pb + 4, none⟩ (.int .i64 c1)).setCell ⟨vb, pb + 5, none⟩ (.int .i64 c2)).cell? ⟨w.heap.size, 6, none⟩ = some (.int .i64 am) ∧ (((p2w1.setCell ⟨vb, pb + 3, none⟩ (.int .i64 c0)).setCell ⟨vb, pb + 4, none⟩ (.int .i64 c1)).setCell ⟨vb, pb + 5, none⟩ (.int .i64 c2)).cell? ⟨w.heap.size, 7, none⟩ = some (.bool pu) ∧ (((p2w1.setCell ⟨vb, pb + 3, none⟩ (.int .i64 c0)).setCell ⟨vb, pb + 4, none⟩ (.int .i64 c1)).setCell ⟨vb, pb + 5, none⟩ (.int .i64 c2)).cell? ⟨vb, pb, none⟩ = some (.string sb) ∧ (((p2w1.setCell ⟨vb, pb + 3, none⟩ (.int .i64 c0)).setCell ⟨vb, pb + 4, none⟩ (.int .i64 c1)).setCell ⟨vb, pb + 5, none⟩ (.int .i64 c2)).cell? ⟨vb, pb + 1, none⟩ = some (.int .i64 vo) ∧ (((p2w1.setCell ⟨vb, pb + 3, none⟩ (.int .i64 c0)).setCell ⟨vb, pb + 4, none⟩ (.int .i64 c1)).setCell ⟨vb, pb + 5, none⟩ (.int .i64 c2)).cell? ⟨vb, pb + 2, none⟩ = some (.int .i64 mo) ∧ (((p2w1.setCell ⟨vb, pb + 3, none⟩ (.int .i64 c0)).setCell ⟨vb, pb + 4, none⟩ (.int .i64 c1)).setCell ⟨vb, pb + 5, none⟩ (.int .i64 c2)).cell? ⟨vb, pb + 3, none⟩ = some (.int .i64 c0) ∧ (((p2w1.setCell ⟨vb, pb + 3, none⟩ (.int .i64 c0)).setCell ⟨vb, pb + 4, none⟩ (.int .i64 c1)).setCell ⟨vb, pb + 5, none⟩ (.int .i64 c2)).cell? ⟨vb, pb + 4, none⟩ = some (.int .i64 c1) ∧ (((p2w1.setCell ⟨vb, pb + 3, none⟩ (.int .i64 c0)).setCell ⟨vb, pb + 4, none⟩ (.int .i64 c1)).setCell ⟨vb, pb + 5, none⟩ (.int .i64 c2)).cell? ⟨vb, pb + 5, none⟩ = some (.int .i64 c2) ∧ (((p2w1.setCell ⟨vb, pb + 3, none⟩ (.int .i64 c0)).setCell ⟨vb, pb + 4, none⟩ (.int .i64 c1)).setCell ⟨vb, pb + 5, none⟩ (.int .i64 c2)).cell? ⟨rb, 0, none⟩ = some (.slice (some ⟨vb, 0, none⟩) n cap) ∧ (((p2w1.setCell ⟨vb, pb + 3, none⟩ (.int .i64 c0)).setCell ⟨vb, pb + 4, none⟩ (.int .i64 c1)).setCell ⟨vb, pb + 5, none⟩ (.int .i64 c2)).cell? ⟨rb, 1, none⟩ = some (.int .i64 G0) ∧ (((p2w1.setCell ⟨vb, pb + 3, none⟩ (.int .i64 c0)).setCell ⟨vb, pb + 4, none⟩ (.int .i64 c1)).setCell ⟨vb, pb + 5, none⟩ (.int .i64 c2)).cell? ⟨rb, 2, none⟩ = some (.int .i64 G1) ∧ (((p2w1.setCell ⟨vb, pb + 3, none⟩ (.int .i64 c0)).setCell ⟨vb, pb + 4, none⟩ (.int .i64 c1)).setCell ⟨vb, pb + 5, none⟩ (.int .i64 c2)).cell? ⟨rb, 3, none⟩ = some (.int .i64 G2) ∧ (((p2w1.setCell ⟨vb, pb + 3, none⟩ (.int .i64 c0)).setCell ⟨vb, pb + 4, none⟩ (.int .i64 c1)).setCell ⟨vb, pb + 5, none⟩ (.int .i64 c2)).cell? ⟨rb, 4, none⟩ = some (.int .i64 k0) ∧ (((p2w1.setCell ⟨vb, pb + 3, none⟩ (.int .i64 c0)).setCell ⟨vb, pb + 4, none⟩ (.int .i64 c1)).setCell ⟨vb, pb + 5, none⟩ (.int .i64 c2)).cell? ⟨rb, 5, none⟩ = some (.int .i64 k1) ∧ (((p2w1.setCell ⟨vb, pb + 3, none⟩ (.int .i64 c0)).setCell ⟨vb, pb + 4, none⟩ (.int .i64 c1)).setCell ⟨vb, pb + 5, none⟩ (.int .i64 c2)).cell? ⟨rb, 6, none⟩ = some (.int .i64 k2) ∧ (((p2w1.setCell ⟨vb, pb + 3, none⟩ (.int .i64 c0)).setCell ⟨vb, pb + 4, none⟩ (.int .i64 c1)).setCell ⟨vb, pb + 5, none⟩ (.int .i64 c2)).cell? ⟨rb, 7, none⟩ = some (.int .i64 day) ∧ (((p2w1.setCell ⟨vb, pb + 3, none⟩ (.int .i64 c0)).setCell ⟨vb, pb + 4, none⟩ (.int .i64 c1)).setCell ⟨vb, pb + 5, none⟩ (.int .i64 c2)).cell? ⟨tb, 0, none⟩ = some (.int .i64 X) ∧ (((p2w1.setCell ⟨vb, pb + 3, none⟩ (.int .i64 c0)).setCell ⟨vb, pb + 4, none⟩ (.int .i64 c1)).setCell ⟨vb, pb + 5, none⟩ (.int .i64 c2)).cell? ⟨tb, 1, none⟩ = some (.int .i64 Y) ∧ (((p2w1.setCell ⟨vb, pb + 3, none⟩ (.int .i64 c0)).setCell ⟨vb, pb + 4, none⟩ (.int .i64 c1)).setCell ⟨vb, pb + 5, none⟩ (.int .i64 c2)).cell? ⟨tb, 2, none⟩ = some (.int .i64 Z) := by refine ⟨?_, ?_, ?_, ?_, ?_, ?_, ?_, ?_, ?_, ?_, ?_, ?_, ?_, ?_, ?_, ?_, ?_, ?_, ?_, ?_, ?_, ?_, ?_, ?_, ?_⟩ <;> (simp [go_sem, cP, *])
    obtain ⟨y2f1, y2f2, y2f3⟩ : (∀ j, (((p2w1.setCell ⟨vb, pb + 3, none⟩ (.int .i64 c0)).setCell ⟨vb, pb + 4, none⟩ (.int .i64 c1)).setCell ⟨vb, pb + 5, none⟩ (.int .i64 c2)).frozen? ⟨vb, j, none⟩ = false) ∧ (∀ j, (((p2w1.setCell ⟨vb, pb + 3, none⟩ (.int .i64 c0)).setCell ⟨vb, pb + 4, none⟩ (.int .i64 c1)).setCell ⟨vb, pb + 5, none⟩ (.int .i64 c2)).frozen? ⟨rb, j, none⟩ = false) ∧ (∀ j, (((p2w1.setCell ⟨vb, pb + 3, none⟩ (.int .i64 c0)).setCell ⟨vb, pb + 4, none⟩ (.int .i64 c1)).setCell ⟨vb, pb + 5, none⟩ (.int .i64 c2)).frozen? ⟨tb, j, none⟩ = false) := by refine ⟨?_, ?_, ?_⟩ <;> (intro j; simp [go_sem, *])
    have hzy2 : (((p2w1.setCell ⟨vb, pb + 3, none⟩ (.int .i64 c0)).setCell ⟨vb, pb + 4, none⟩ (.int .i64 c1)).setCell ⟨vb, pb + 5, none⟩ (.int .i64 c2)).heap.size = p2w1.heap.size := by simp
    have hDy2 : BelowD rb vb w.heap.size w (((p2w1.setCell ⟨vb, pb + 3, none⟩ (.int .i64 c0)).setCell ⟨vb, pb + 4, none⟩ (.int .i64 c1)).setCell ⟨vb, pb + 5, none⟩ (.int .i64 c2)) := (((hDy1.trans (BelowD.of hBp21 (by omega))).set vb (pb + 3) _ (Or.inr (Or.inl rfl))).set vb (pb + 4) _ (Or.inr (Or.inl rfl))).set vb (pb + 5) _ (Or.inr (Or.inl rfl))
    have hVy2 : ∀ q, q ≠ pb + 3 → q ≠ pb + 4 → q ≠ pb + 5 → (((p2w1.setCell ⟨vb, pb + 3, none⟩ (.int .i64 c0)).setCell ⟨vb, pb + 4, none⟩ (.int .i64 c1)).setCell ⟨vb, pb + 5, none⟩ (.int .i64 c2)).cell? ⟨vb, q, none⟩ = w.cell? ⟨vb, q, none⟩ := fun q u0 u1 u2 => by rw [soff (Ne.symm u2), soff (Ne.symm u1), soff (Ne.symm u0), hBp21.cell (p := ⟨vb, q, none⟩) (by show vb < _; omega)]; exact hVy1 q u0 u1 u2
    have zsy2 : y1.heap.size ≤ (((p2w1.setCell ⟨vb, pb + 3, none⟩ (.int .i64 c0)).setCell ⟨vb, pb + 4, none⟩ (.int .i64 c1)).setCell ⟨vb, pb + 5, none⟩ (.int .i64 c2)).heap.size := by rw [hzy2]; exact hBp21.size
    clear p21_0_0 p21_0_1 p21_0_2 p21_0_3 p21_0_4 p21_0_5 p21_0_6 p21_0_7 p21_1_0 p21_1_1 p21_1_2 p21_1_3 p21_1_4 p21_1_5 p21_2_0 p21_2_1 p21_2_2 p21_2_3 p21_2_4 p21_2_5 p21_2_6 p21_2_7 p21_3_0 p21_3_1 p21_3_2 p21f1 p21f2 p21f3 p21o0 p21n0 p21o1 p21n1 p21o2 p21n2 p21o3 p21n3 hBp21
    generalize hWy2 : ((p2w1.setCell ⟨vb, pb + 3, none⟩ (.int .i64 c0)).setCell ⟨vb, pb + 4, none⟩ (.int .i64 c1)).setCell ⟨vb, pb + 5, none⟩ (.int .i64 c2) = y2 at *
    clear hWy2
    have q1y2 : w.heap.size < y2.heap.size := by omega
    have q2y2 : vb < y2.heap.size := by omega
    have q3y2 : rb < y2.heap.size := by omega
    have q4y2 : tb < y2.heap.size := by omega
    go_wp2
    go_ret
    refine ⟨ret_int hz.symm, Or.inr ⟨hz, (by simp [go_sem, *]), (by simp [go_sem, *]), (by simp [go_sem, *]), (by simp [go_sem, *]), (by simp [go_sem, *]), (by simp [go_sem, *]), (by simp [go_sem, *]), (by simp [go_sem, *]), (by simp [go_sem, *]), (by simp [go_sem, *]), (by simp [go_sem, *]), fun q u0 u1 u2 => (sblk (by first | assumption | omega)).trans (hVy2 q u0 u1 u2), (fun j => by simp [go_sem, *]), (fun j => by simp [go_sem, *]), hDy2.set rb 7 _ (Or.inl rfl)⟩⟩
  · have hz2 : (E != 0) = true := by simpa using hz
    go_wp2
    go_ret
    exact ⟨rfl, Or.inl ⟨hz, belA⟩⟩
end Go.Proofs.Ytjkhjjmmkdfjmaa
