import Derived.Test.YtjkhjjmmkdfjmaaBBAdd0
import Derived.Test.YtjkhjjmmkdfjmaaBBFShM
import Derived.Outline
namespace Go.Proofs.Ytjkhjjmmkdfjmaa
open Go.ChangeShapes Go.WideShapes Go.ChangeAt Go.RowKit
set_option linter.unusedVariables false
set_option linter.unusedSimpArgs false
attribute [local go_sem ↓] Go.wp_at_zero Go.wp_at_succ
set_option maxHeartbeats 8000000 in
set_option maxRecDepth 100000 in
theorem add_V (rb vb n cap qa pa qb pb : Nat) (H : List Hd) (d o h am g0 g1 g2 k0 k1 k2 day va ma a0 a1 a2 SA vo mo b0 b1 b2 SB E X Y Z n0 n1 n2 L0 L1 L2 : Int) (fr tz sa sb : ByteArray) (pu : Bool) (w : World) (hn : Hid (n = H.length)) (hl : n ≤ 1000000) (r0 : w.cell? ⟨rb, 0, none⟩ = some (.slice (some ⟨vb, 0, none⟩) n cap)) (r1 : w.cell? ⟨rb, 1, none⟩ = some (.int .i64 g0)) (r2 : w.cell? ⟨rb, 2, none⟩ = some (.int .i64 g1)) (r3 : w.cell? ⟨rb, 3, none⟩ = some (.int .i64 g2)) (r4 : w.cell? ⟨rb, 4, none⟩ = some (.int .i64 k0)) (r5 : w.cell? ⟨rb, 5, none⟩ = some (.int .i64 k1)) (r6 : w.cell? ⟨rb, 6, none⟩ = some (.int .i64 k2)) (r7 : w.cell? ⟨rb, 7, none⟩ = some (.int .i64 day)) (xa0 : w.cell? ⟨vb, pa, none⟩ = some (.string sa)) (xa1 : w.cell? ⟨vb, pa + 1, none⟩ = some (.int .i64 va)) (xa2 : w.cell? ⟨vb, pa + 2, none⟩ = some (.int .i64 ma)) (xa3 : w.cell? ⟨vb, pa + 3, none⟩ = some (.int .i64 a0)) (xa4 : w.cell? ⟨vb, pa + 4, none⟩ = some (.int .i64 a1)) (xa5 : w.cell? ⟨vb, pa + 5, none⟩ = some (.int .i64 a2))  (vf : ∀ j, w.frozen? ⟨vb, j, none⟩ = false) (rf : ∀ j, w.frozen? ⟨rb, j, none⟩ = false) (lv : vb < w.heap.size) (lr : rb < w.heap.size) (nrv : rb ≠ vb) (hR : Hid (RowsAt hdV 6 w vb 0 H)) (hqa : Hid (qa < n)) (hF : Hid (fndV fr (H.map hdS) = qa)) (hpa : Hid (qa * 6 = pa)) (hT : Hid (fndV ⟨#[]⟩ (H.map hdS) = -1)) (hA : Hid (alnE 2 d fr ⟨#[]⟩ 0 0 am pu = 0)) (hG : Hid (gasE 0 0 = 0)) (am1 : 1 ≤ am) (am2 : am ≤ 1000000000) (hcA : Hid (conB a0 a1 a2 = true)) (hSA : Hid (a0 + a1 + a2 = SA)) (u1 : 1 ≤ va) (u2 : va ≤ 1000000000)  (hE : Hid (pos2 d day am SA = E)) (hX : Hid (E = 0 → shareR a0 a1 a2 am = (X, Y, Z))) (k0n : 0 ≤ k0) (k0m : k0 ≤ 1000000000000) (k1n : 0 ≤ k1) (k1m : k1 ≤ 1000000000000) (k2n : 0 ≤ k2) (k2m : k2 ≤ 1000000000000) (hN : Hid (a0 - X = n0 ∧ a1 - Y = n1 ∧ a2 - Z = n2)) (hI : Hid (k0 + X = L0 ∧ k1 + Y = L1 ∧ k2 + Z = L2))  : Calls Try.prog 65 #[.pointer (some ⟨rb, 0, none⟩), .agg #[.int .i64 2, .int .i64 d, .string fr, .string ⟨#[]⟩, .int .i64 0, .int .i64 0, .int .i64 am, .bool pu]] w fun e w' => e = .returned (.int .i64 E) ∧ ((¬ E = 0 ∧ Below w.heap.size w w') ∨ (E = 0 ∧ w'.cell? ⟨rb, 0, none⟩ = some (.slice (some ⟨vb, 0, none⟩) n cap) ∧ w'.cell? ⟨rb, 1, none⟩ = some (.int .i64 g0) ∧ w'.cell? ⟨rb, 2, none⟩ = some (.int .i64 g1) ∧ w'.cell? ⟨rb, 3, none⟩ = some (.int .i64 g2) ∧ w'.cell? ⟨rb, 4, none⟩ = some (.int .i64 L0) ∧ w'.cell? ⟨rb, 5, none⟩ = some (.int .i64 L1) ∧ w'.cell? ⟨rb, 6, none⟩ = some (.int .i64 L2) ∧ w'.cell? ⟨rb, 7, none⟩ = some (.int .i64 d) ∧ w'.cell? ⟨vb, pa + 3, none⟩ = some (.int .i64 n0) ∧ w'.cell? ⟨vb, pa + 4, none⟩ = some (.int .i64 n1) ∧ w'.cell? ⟨vb, pa + 5, none⟩ = some (.int .i64 n2) ∧ (∀ q, q ≠ pa + 3 → q ≠ pa + 4 → q ≠ pa + 5 → w'.cell? ⟨vb, q, none⟩ = w.cell? ⟨vb, q, none⟩) ∧ (∀ j, w'.frozen? ⟨vb, j, none⟩ = false) ∧ (∀ j, w'.frozen? ⟨rb, j, none⟩ = false) ∧ BelowD rb vb w.heap.size w w')) := by
  have o1 : vb ≠ w.heap.size := by omega
  have o2 : rb ≠ w.heap.size := by omega
  have o3 : vb < w.heap.size + 1 := by omega
  have o4 : rb < w.heap.size + 1 := by omega
  have nvr : vb ≠ rb := fun h => nrv h.symm
  obtain ⟨ca0, ca1, ca2, ca3⟩ := conB_iff.1 hcA.out
  go_enter Try.func65, Try.ntmps65
  go_wp2_with fail
  refine (alp_any 2 d 0 0 am 0 fr ⟨#[]⟩ pu _ hA).mono ?_
  rintro e xw1 ⟨rfl, hbx1⟩
  have zx1 := hbx1.size
  try simp at zx1
  obtain ⟨x1_0_0, x1_0_1, x1_0_2, x1_0_3, x1_0_4, x1_0_5, x1_0_6, x1_0_7, x1_1_0, x1_1_1, x1_1_2, x1_1_3, x1_1_4, x1_1_5, x1_2_0, x1_2_1, x1_2_2, x1_2_3, x1_2_4, x1_2_5, x1_2_6, x1_2_7⟩ : xw1.cell? ⟨w.heap.size, 0, none⟩ = some (.int .i64 2) ∧ xw1.cell? ⟨w.heap.size, 1, none⟩ = some (.int .i64 d) ∧ xw1.cell? ⟨w.heap.size, 2, none⟩ = some (.string fr) ∧ xw1.cell? ⟨w.heap.size, 3, none⟩ = some (.string ⟨#[]⟩) ∧ xw1.cell? ⟨w.heap.size, 4, none⟩ = some (.int .i64 0) ∧ xw1.cell? ⟨w.heap.size, 5, none⟩ = some (.int .i64 0) ∧ xw1.cell? ⟨w.heap.size, 6, none⟩ = some (.int .i64 am) ∧ xw1.cell? ⟨w.heap.size, 7, none⟩ = some (.bool pu) ∧ xw1.cell? ⟨vb, pa, none⟩ = some (.string sa) ∧ xw1.cell? ⟨vb, pa + 1, none⟩ = some (.int .i64 va) ∧ xw1.cell? ⟨vb, pa + 2, none⟩ = some (.int .i64 ma) ∧ xw1.cell? ⟨vb, pa + 3, none⟩ = some (.int .i64 a0) ∧ xw1.cell? ⟨vb, pa + 4, none⟩ = some (.int .i64 a1) ∧ xw1.cell? ⟨vb, pa + 5, none⟩ = some (.int .i64 a2) ∧ xw1.cell? ⟨rb, 0, none⟩ = some (.slice (some ⟨vb, 0, none⟩) n cap) ∧ xw1.cell? ⟨rb, 1, none⟩ = some (.int .i64 g0) ∧ xw1.cell? ⟨rb, 2, none⟩ = some (.int .i64 g1) ∧ xw1.cell? ⟨rb, 3, none⟩ = some (.int .i64 g2) ∧ xw1.cell? ⟨rb, 4, none⟩ = some (.int .i64 k0) ∧ xw1.cell? ⟨rb, 5, none⟩ = some (.int .i64 k1) ∧ xw1.cell? ⟨rb, 6, none⟩ = some (.int .i64 k2) ∧ xw1.cell? ⟨rb, 7, none⟩ = some (.int .i64 day) := by refine ⟨?_, ?_, ?_, ?_, ?_, ?_, ?_, ?_, ?_, ?_, ?_, ?_, ?_, ?_, ?_, ?_, ?_, ?_, ?_, ?_, ?_, ?_⟩ <;> (rw [(bcell hbx1).1 _ _ (by first | (simp; done) | (simp; omega) | omega)]; simp [go_sem, cP, *])
  obtain ⟨x1f1, x1f2⟩ : (∀ j, xw1.frozen? ⟨vb, j, none⟩ = false) ∧ (∀ j, xw1.frozen? ⟨rb, j, none⟩ = false) := by refine ⟨?_, ?_⟩ <;> (intro j; rw [(bcell hbx1).2 _ _ (by first | (simp; done) | (simp; omega) | omega)]; simp [go_sem, *])
  obtain ⟨x1o0, x1n0, x1t0_0, x1t0_1, x1o1, x1n1, x1t1_0, x1t1_1, x1o2, x1n2, x1t2_0, x1t2_1⟩ : w.heap.size < xw1.heap.size ∧ xw1.heap.size ≠ w.heap.size ∧ w.heap.size < xw1.heap.size + 1 ∧ w.heap.size < xw1.heap.size + 1 + 1 ∧ vb < xw1.heap.size ∧ xw1.heap.size ≠ vb ∧ vb < xw1.heap.size + 1 ∧ vb < xw1.heap.size + 1 + 1 ∧ rb < xw1.heap.size ∧ xw1.heap.size ≠ rb ∧ rb < xw1.heap.size + 1 ∧ rb < xw1.heap.size + 1 + 1 := by refine ⟨?_, ?_, ?_, ?_, ?_, ?_, ?_, ?_, ?_, ?_, ?_, ?_⟩ <;> omega
  have hBx1 : Below w.heap.size w xw1 := belA
  clear hbx1 
  go_upto_region 4 with (fail)
  refine wp_region_held_drew (S := (fun w' => w'.cell? ⟨w.heap.size, 0, none⟩ = some (.int .i64 2) ∧ w'.cell? ⟨w.heap.size, 1, none⟩ = some (.int .i64 d) ∧ w'.cell? ⟨w.heap.size, 2, none⟩ = some (.string fr) ∧ w'.cell? ⟨w.heap.size, 3, none⟩ = some (.string ⟨#[]⟩) ∧ w'.cell? ⟨w.heap.size, 4, none⟩ = some (.int .i64 0) ∧ w'.cell? ⟨w.heap.size, 5, none⟩ = some (.int .i64 0) ∧ w'.cell? ⟨w.heap.size, 6, none⟩ = some (.int .i64 am) ∧ w'.cell? ⟨w.heap.size, 7, none⟩ = some (.bool pu) ∧ w'.cell? ⟨rb, 0, none⟩ = some (.slice (some ⟨vb, 0, none⟩) n cap) ∧ w'.cell? ⟨rb, 1, none⟩ = some (.int .i64 g0) ∧ w'.cell? ⟨rb, 2, none⟩ = some (.int .i64 g1) ∧ w'.cell? ⟨rb, 3, none⟩ = some (.int .i64 g2) ∧ w'.cell? ⟨rb, 4, none⟩ = some (.int .i64 k0) ∧ w'.cell? ⟨rb, 5, none⟩ = some (.int .i64 k1) ∧ w'.cell? ⟨rb, 6, none⟩ = some (.int .i64 k2) ∧ w'.cell? ⟨rb, 7, none⟩ = some (.int .i64 day))) (by kernel_rfl) (by simp [go_sem, cP, *]) (fun hHeld => ?_)
  refine tkH 0 ⟨some 15, _, _, _, _, _⟩ ?_ rfl ?_ (by assumption) ?_
  rotate_left
  · (intro w hSw; (try dsimp only at hSw); go_simp; all_goals with_reducible rfl)
  try simp only [Act.put, sA, sB, sC]
  refine tkH 1 ⟨some 16, _, _, _, _, _⟩ ?_ rfl ?_ (by assumption) ?_
  rotate_left
  · (intro w hSw; (try dsimp only at hSw); go_simp; all_goals with_reducible rfl)
  try simp only [Act.put, sA, sB, sC]
  refine tkH 2 ⟨some 17, _, _, _, _, _⟩ ?_ rfl ?_ (by assumption) ?_
  rotate_left
  · (intro w hSw; (try dsimp only at hSw); go_simp; all_goals with_reducible rfl)
  try simp only [Act.put, sA, sB, sC]
  refine tkH 3 ⟨some 18, _, _, _, _, _⟩ ?_ rfl ?_ (by assumption) ?_
  rotate_left
  · (intro w hSw; (try dsimp only at hSw); go_simp; all_goals with_reducible rfl)
  try simp only [Act.put, sA, sB, sC]
  refine tkH 4 ⟨some 19, _, _, _, _, _⟩ ?_ rfl ?_ (by assumption) ?_
  rotate_left
  · (intro w hSw; (try dsimp only at hSw); go_simp; all_goals with_reducible rfl)
  try simp only [Act.put, sA, sB, sC]
  refine tkH 6 ⟨some 21, _, _, _, _, _⟩ ?_ rfl ?_ (by assumption) ?_
  rotate_left
  · (intro w hSw; (try dsimp only at hSw); go_simp; all_goals with_reducible rfl)
  try simp only [Act.put, sA, sB, sC]
  refine tkH 7 ⟨some 22, _, _, _, _, _⟩ ?_ rfl ?_ (by assumption) ?_
  rotate_left
  · (intro w hSw; (try dsimp only at hSw); go_simp; all_goals with_reducible rfl)
  try simp only [Act.put, sA, sB, sC]
  refine tkH 8 ⟨some 23, _, _, _, _, _⟩ ?_ rfl ?_ (by assumption) ?_
  rotate_left
  · (intro w hSw; (try dsimp only at hSw); go_simp; all_goals with_reducible rfl)
  try simp only [Act.put, sA, sB, sC]
  refine tkH 9 ⟨some 24, _, _, _, _, _⟩ ?_ rfl ?_ (by assumption) ?_
  rotate_left
  · (intro w hSw; (try dsimp only at hSw); go_simp; all_goals with_reducible rfl)
  try simp only [Act.put, sA, sB, sC]
  refine tkH 10 ⟨some 25, _, _, _, _, _⟩ ?_ rfl ?_ (by assumption) ?_
  rotate_left
  · (intro w hSw; (try dsimp only at hSw); go_simp; all_goals with_reducible rfl)
  try simp only [Act.put, sA, sB, sC]
  refine wpAnyH_ready (rs := [5]) (by kernel_rfl) (by simp) ?_
  refine AllReadyH.cons rfl (fun K hK => ?_) AllReadyH.nil
  go_simp
  refine (vessel_at H vb cap n qa pa fr g0 g1 g2 k0 k1 k2 day _ hn hl (by first | omega | (simp; omega)) (hR.out.below (by first | exact hBx1 | exact hBx1.drew) lv) hqa hF hpa).mono ?_
  rintro e xw2 ⟨rfl, hbx2⟩
  have zx2 := hbx2.size
  try simp at zx2
  obtain ⟨x2_0_0, x2_0_1, x2_0_2, x2_0_3, x2_0_4, x2_0_5, x2_0_6, x2_0_7, x2_1_0, x2_1_1, x2_1_2, x2_1_3, x2_1_4, x2_1_5, x2_2_0, x2_2_1, x2_2_2, x2_2_3, x2_2_4, x2_2_5, x2_2_6, x2_2_7⟩ : xw2.cell? ⟨w.heap.size, 0, none⟩ = some (.int .i64 2) ∧ xw2.cell? ⟨w.heap.size, 1, none⟩ = some (.int .i64 d) ∧ xw2.cell? ⟨w.heap.size, 2, none⟩ = some (.string fr) ∧ xw2.cell? ⟨w.heap.size, 3, none⟩ = some (.string ⟨#[]⟩) ∧ xw2.cell? ⟨w.heap.size, 4, none⟩ = some (.int .i64 0) ∧ xw2.cell? ⟨w.heap.size, 5, none⟩ = some (.int .i64 0) ∧ xw2.cell? ⟨w.heap.size, 6, none⟩ = some (.int .i64 am) ∧ xw2.cell? ⟨w.heap.size, 7, none⟩ = some (.bool pu) ∧ xw2.cell? ⟨vb, pa, none⟩ = some (.string sa) ∧ xw2.cell? ⟨vb, pa + 1, none⟩ = some (.int .i64 va) ∧ xw2.cell? ⟨vb, pa + 2, none⟩ = some (.int .i64 ma) ∧ xw2.cell? ⟨vb, pa + 3, none⟩ = some (.int .i64 a0) ∧ xw2.cell? ⟨vb, pa + 4, none⟩ = some (.int .i64 a1) ∧ xw2.cell? ⟨vb, pa + 5, none⟩ = some (.int .i64 a2) ∧ xw2.cell? ⟨rb, 0, none⟩ = some (.slice (some ⟨vb, 0, none⟩) n cap) ∧ xw2.cell? ⟨rb, 1, none⟩ = some (.int .i64 g0) ∧ xw2.cell? ⟨rb, 2, none⟩ = some (.int .i64 g1) ∧ xw2.cell? ⟨rb, 3, none⟩ = some (.int .i64 g2) ∧ xw2.cell? ⟨rb, 4, none⟩ = some (.int .i64 k0) ∧ xw2.cell? ⟨rb, 5, none⟩ = some (.int .i64 k1) ∧ xw2.cell? ⟨rb, 6, none⟩ = some (.int .i64 k2) ∧ xw2.cell? ⟨rb, 7, none⟩ = some (.int .i64 day) := by refine ⟨?_, ?_, ?_, ?_, ?_, ?_, ?_, ?_, ?_, ?_, ?_, ?_, ?_, ?_, ?_, ?_, ?_, ?_, ?_, ?_, ?_, ?_⟩ <;> (rw [(bcell hbx2).1 _ _ (by first | (simp; done) | (simp; omega) | omega)]; simp [go_sem, cP, *])
  obtain ⟨x2f1, x2f2⟩ : (∀ j, xw2.frozen? ⟨vb, j, none⟩ = false) ∧ (∀ j, xw2.frozen? ⟨rb, j, none⟩ = false) := by refine ⟨?_, ?_⟩ <;> (intro j; rw [(bcell hbx2).2 _ _ (by first | (simp; done) | (simp; omega) | omega)]; simp [go_sem, *])
  obtain ⟨x2o0, x2n0, x2t0_0, x2t0_1, x2o1, x2n1, x2t1_0, x2t1_1, x2o2, x2n2, x2t2_0, x2t2_1⟩ : w.heap.size < xw2.heap.size ∧ xw2.heap.size ≠ w.heap.size ∧ w.heap.size < xw2.heap.size + 1 ∧ w.heap.size < xw2.heap.size + 1 + 1 ∧ vb < xw2.heap.size ∧ xw2.heap.size ≠ vb ∧ vb < xw2.heap.size + 1 ∧ vb < xw2.heap.size + 1 + 1 ∧ rb < xw2.heap.size ∧ xw2.heap.size ≠ rb ∧ rb < xw2.heap.size + 1 ∧ rb < xw2.heap.size + 1 + 1 := by refine ⟨?_, ?_, ?_, ?_, ?_, ?_, ?_, ?_, ?_, ?_, ?_, ?_⟩ <;> omega
  have hBx2 : Below w.heap.size w xw2 := belA
  clear hbx2 x1_0_0 x1_0_1 x1_0_2 x1_0_3 x1_0_4 x1_0_5 x1_0_6 x1_0_7 x1_1_0 x1_1_1 x1_1_2 x1_1_3 x1_1_4 x1_1_5 x1_2_0 x1_2_1 x1_2_2 x1_2_3 x1_2_4 x1_2_5 x1_2_6 x1_2_7 x1f1 x1f2 x1o0 x1n0 x1t0_0 x1t0_1 x1o1 x1n1 x1t1_0 x1t1_1 x1o2 x1n2 x1t2_0 x1t2_1 hBx1
  go_wp2_with fail
  refine hK.out _ _ (by simp [go_sem, cP, *]) (fun hHeld => ?_)
  clear hK K
  try simp only [Act.put, sA, sB, sC]
  refine wpAnyH_ready (rs := [11]) (by kernel_rfl) (by simp) ?_
  refine AllReadyH.cons rfl (fun K hK => ?_) AllReadyH.nil
  go_simp
  refine (vessel_no H (some ⟨vb, 0, none⟩) cap n ⟨#[]⟩ g0 g1 g2 k0 k1 k2 day _ w w.heap.size hn hl (Lib.hid (Or.inr ⟨vb, rfl, lv, hR.out⟩)) (by first | exact hBx2 | exact hBx2.drew) (by first | omega | (simp; omega)) hT).mono ?_
  rintro e xw3 ⟨rfl, hbx3⟩
  have zx3 := hbx3.size
  try simp at zx3
  obtain ⟨x3_0_0, x3_0_1, x3_0_2, x3_0_3, x3_0_4, x3_0_5, x3_0_6, x3_0_7, x3_1_0, x3_1_1, x3_1_2, x3_1_3, x3_1_4, x3_1_5, x3_2_0, x3_2_1, x3_2_2, x3_2_3, x3_2_4, x3_2_5, x3_2_6, x3_2_7⟩ : xw3.cell? ⟨w.heap.size, 0, none⟩ = some (.int .i64 2) ∧ xw3.cell? ⟨w.heap.size, 1, none⟩ = some (.int .i64 d) ∧ xw3.cell? ⟨w.heap.size, 2, none⟩ = some (.string fr) ∧ xw3.cell? ⟨w.heap.size, 3, none⟩ = some (.string ⟨#[]⟩) ∧ xw3.cell? ⟨w.heap.size, 4, none⟩ = some (.int .i64 0) ∧ xw3.cell? ⟨w.heap.size, 5, none⟩ = some (.int .i64 0) ∧ xw3.cell? ⟨w.heap.size, 6, none⟩ = some (.int .i64 am) ∧ xw3.cell? ⟨w.heap.size, 7, none⟩ = some (.bool pu) ∧ xw3.cell? ⟨vb, pa, none⟩ = some (.string sa) ∧ xw3.cell? ⟨vb, pa + 1, none⟩ = some (.int .i64 va) ∧ xw3.cell? ⟨vb, pa + 2, none⟩ = some (.int .i64 ma) ∧ xw3.cell? ⟨vb, pa + 3, none⟩ = some (.int .i64 a0) ∧ xw3.cell? ⟨vb, pa + 4, none⟩ = some (.int .i64 a1) ∧ xw3.cell? ⟨vb, pa + 5, none⟩ = some (.int .i64 a2) ∧ xw3.cell? ⟨rb, 0, none⟩ = some (.slice (some ⟨vb, 0, none⟩) n cap) ∧ xw3.cell? ⟨rb, 1, none⟩ = some (.int .i64 g0) ∧ xw3.cell? ⟨rb, 2, none⟩ = some (.int .i64 g1) ∧ xw3.cell? ⟨rb, 3, none⟩ = some (.int .i64 g2) ∧ xw3.cell? ⟨rb, 4, none⟩ = some (.int .i64 k0) ∧ xw3.cell? ⟨rb, 5, none⟩ = some (.int .i64 k1) ∧ xw3.cell? ⟨rb, 6, none⟩ = some (.int .i64 k2) ∧ xw3.cell? ⟨rb, 7, none⟩ = some (.int .i64 day) := by refine ⟨?_, ?_, ?_, ?_, ?_, ?_, ?_, ?_, ?_, ?_, ?_, ?_, ?_, ?_, ?_, ?_, ?_, ?_, ?_, ?_, ?_, ?_⟩ <;> (rw [(bcell hbx3).1 _ _ (by first | (simp; done) | (simp; omega) | omega)]; simp [go_sem, cP, *])
  obtain ⟨x3f1, x3f2⟩ : (∀ j, xw3.frozen? ⟨vb, j, none⟩ = false) ∧ (∀ j, xw3.frozen? ⟨rb, j, none⟩ = false) := by refine ⟨?_, ?_⟩ <;> (intro j; rw [(bcell hbx3).2 _ _ (by first | (simp; done) | (simp; omega) | omega)]; simp [go_sem, *])
  obtain ⟨x3o0, x3n0, x3t0_0, x3t0_1, x3o1, x3n1, x3t1_0, x3t1_1, x3o2, x3n2, x3t2_0, x3t2_1⟩ : w.heap.size < xw3.heap.size ∧ xw3.heap.size ≠ w.heap.size ∧ w.heap.size < xw3.heap.size + 1 ∧ w.heap.size < xw3.heap.size + 1 + 1 ∧ vb < xw3.heap.size ∧ xw3.heap.size ≠ vb ∧ vb < xw3.heap.size + 1 ∧ vb < xw3.heap.size + 1 + 1 ∧ rb < xw3.heap.size ∧ xw3.heap.size ≠ rb ∧ rb < xw3.heap.size + 1 ∧ rb < xw3.heap.size + 1 + 1 := by refine ⟨?_, ?_, ?_, ?_, ?_, ?_, ?_, ?_, ?_, ?_, ?_, ?_⟩ <;> omega
  have hBx3 : Below w.heap.size w xw3 := belA
  clear hbx3 x2_0_0 x2_0_1 x2_0_2 x2_0_3 x2_0_4 x2_0_5 x2_0_6 x2_0_7 x2_1_0 x2_1_1 x2_1_2 x2_1_3 x2_1_4 x2_1_5 x2_2_0 x2_2_1 x2_2_2 x2_2_3 x2_2_4 x2_2_5 x2_2_6 x2_2_7 x2f1 x2f2 x2o0 x2n0 x2t0_0 x2t0_1 x2o1 x2n1 x2t1_0 x2t1_1 x2o2 x2n2 x2t2_0 x2t2_1 hBx2
  go_wp2_with fail
  refine hK.out _ _ (by simp [go_sem, cP, *]) (fun hHeld => ?_)
  clear hK K
  try simp only [Act.put, sA, sB, sC]
  refine tkH 12 ⟨some 6, _, _, _, _, _⟩ ?_ rfl ?_ (by assumption) ?_
  rotate_left
  · (intro w hSw; (try dsimp only at hSw); go_simp; all_goals with_reducible rfl)
  try simp only [Act.put, sA, sB, sC]
  refine tkH 13 ⟨some 7, _, _, _, _, _⟩ ?_ rfl ?_ (by assumption) ?_
  rotate_left
  · (intro w hSw; (try dsimp only at hSw); go_simp; all_goals with_reducible rfl)
  try simp only [Act.put, sA, sB, sC]
  refine wpAnyH_done (by kernel_rfl) ?_ _
  go_wp2_with fail
  refine (pos_2 rb vb pa 0 d am 0 0 day fr ⟨#[]⟩ sa ⟨#[]⟩ pu va ma a0 a1 a2 SA E _ hE (by simp [go_sem, *]) (by simp [go_sem, *]) (by simp [go_sem, *]) (by simp [go_sem, *]) (by simp [go_sem, *]) (by simp [go_sem, *]) (by simp [go_sem, *]) hcA hSA (by first | omega | (simp; omega)) (by first | omega | (simp; omega))).mono ?_
  rintro e xw4 ⟨rfl, hbx4⟩
  have zx4 := hbx4.size
  try simp at zx4
  obtain ⟨x4_0_0, x4_0_1, x4_0_2, x4_0_3, x4_0_4, x4_0_5, x4_0_6, x4_0_7, x4_1_0, x4_1_1, x4_1_2, x4_1_3, x4_1_4, x4_1_5, x4_2_0, x4_2_1, x4_2_2, x4_2_3, x4_2_4, x4_2_5, x4_2_6, x4_2_7⟩ : xw4.cell? ⟨w.heap.size, 0, none⟩ = some (.int .i64 2) ∧ xw4.cell? ⟨w.heap.size, 1, none⟩ = some (.int .i64 d) ∧ xw4.cell? ⟨w.heap.size, 2, none⟩ = some (.string fr) ∧ xw4.cell? ⟨w.heap.size, 3, none⟩ = some (.string ⟨#[]⟩) ∧ xw4.cell? ⟨w.heap.size, 4, none⟩ = some (.int .i64 0) ∧ xw4.cell? ⟨w.heap.size, 5, none⟩ = some (.int .i64 0) ∧ xw4.cell? ⟨w.heap.size, 6, none⟩ = some (.int .i64 am) ∧ xw4.cell? ⟨w.heap.size, 7, none⟩ = some (.bool pu) ∧ xw4.cell? ⟨vb, pa, none⟩ = some (.string sa) ∧ xw4.cell? ⟨vb, pa + 1, none⟩ = some (.int .i64 va) ∧ xw4.cell? ⟨vb, pa + 2, none⟩ = some (.int .i64 ma) ∧ xw4.cell? ⟨vb, pa + 3, none⟩ = some (.int .i64 a0) ∧ xw4.cell? ⟨vb, pa + 4, none⟩ = some (.int .i64 a1) ∧ xw4.cell? ⟨vb, pa + 5, none⟩ = some (.int .i64 a2) ∧ xw4.cell? ⟨rb, 0, none⟩ = some (.slice (some ⟨vb, 0, none⟩) n cap) ∧ xw4.cell? ⟨rb, 1, none⟩ = some (.int .i64 g0) ∧ xw4.cell? ⟨rb, 2, none⟩ = some (.int .i64 g1) ∧ xw4.cell? ⟨rb, 3, none⟩ = some (.int .i64 g2) ∧ xw4.cell? ⟨rb, 4, none⟩ = some (.int .i64 k0) ∧ xw4.cell? ⟨rb, 5, none⟩ = some (.int .i64 k1) ∧ xw4.cell? ⟨rb, 6, none⟩ = some (.int .i64 k2) ∧ xw4.cell? ⟨rb, 7, none⟩ = some (.int .i64 day) := by refine ⟨?_, ?_, ?_, ?_, ?_, ?_, ?_, ?_, ?_, ?_, ?_, ?_, ?_, ?_, ?_, ?_, ?_, ?_, ?_, ?_, ?_, ?_⟩ <;> (rw [(bcell hbx4).1 _ _ (by first | (simp; done) | (simp; omega) | omega)]; simp [go_sem, cP, *])
  obtain ⟨x4f1, x4f2⟩ : (∀ j, xw4.frozen? ⟨vb, j, none⟩ = false) ∧ (∀ j, xw4.frozen? ⟨rb, j, none⟩ = false) := by refine ⟨?_, ?_⟩ <;> (intro j; rw [(bcell hbx4).2 _ _ (by first | (simp; done) | (simp; omega) | omega)]; simp [go_sem, *])
  obtain ⟨x4o0, x4n0, x4t0_0, x4t0_1, x4o1, x4n1, x4t1_0, x4t1_1, x4o2, x4n2, x4t2_0, x4t2_1⟩ : w.heap.size < xw4.heap.size ∧ xw4.heap.size ≠ w.heap.size ∧ w.heap.size < xw4.heap.size + 1 ∧ w.heap.size < xw4.heap.size + 1 + 1 ∧ vb < xw4.heap.size ∧ xw4.heap.size ≠ vb ∧ vb < xw4.heap.size + 1 ∧ vb < xw4.heap.size + 1 + 1 ∧ rb < xw4.heap.size ∧ xw4.heap.size ≠ rb ∧ rb < xw4.heap.size + 1 ∧ rb < xw4.heap.size + 1 + 1 := by refine ⟨?_, ?_, ?_, ?_, ?_, ?_, ?_, ?_, ?_, ?_, ?_, ?_⟩ <;> omega
  have hBx4 : Below w.heap.size w xw4 := belA
  clear hbx4 x3_0_0 x3_0_1 x3_0_2 x3_0_3 x3_0_4 x3_0_5 x3_0_6 x3_0_7 x3_1_0 x3_1_1 x3_1_2 x3_1_3 x3_1_4 x3_1_5 x3_2_0 x3_2_1 x3_2_2 x3_2_3 x3_2_4 x3_2_5 x3_2_6 x3_2_7 x3f1 x3f2 x3o0 x3n0 x3t0_0 x3t0_1 x3o1 x3n1 x3t1_0 x3t1_1 x3o2 x3n2 x3t2_0 x3t2_1 hBx3
  by_cases hz : E = 0
  · skip
    have hz2 : (E != 0) = false := by rw [hz]; rfl
    have le : am ≤ a0 + a1 + a2 := by have h1 := hE.out; have h2 := hSA.out; rw [hz] at h1; unfold pos2 at h1; split at h1; omega; split at h1; omega; omega
    have sh := hX.out hz
    obtain ⟨-, ⟨X0, X1, -, -⟩, ⟨Y0, Y1, -, -⟩, Z0, Z1, -, -⟩ := share_ok hcA.out (by omega) le sh
    have sh := Lib.hid sh
    go_wp2_with fail
    refine (broughtIn_any 2 d 0 0 am 0 0 am fr ⟨#[]⟩ pu _ hG am1 am2 (Lib.hid (by simp)) (Lib.hid (by simp)) (Lib.hid (by omega))).mono ?_
    rintro e xw5 ⟨rfl, hbx5⟩
    have zx5 := hbx5.size
    try simp at zx5
    obtain ⟨x5_0_0, x5_0_1, x5_0_2, x5_0_3, x5_0_4, x5_0_5, x5_0_6, x5_0_7, x5_1_0, x5_1_1, x5_1_2, x5_1_3, x5_1_4, x5_1_5, x5_2_0, x5_2_1, x5_2_2, x5_2_3, x5_2_4, x5_2_5, x5_2_6, x5_2_7⟩ : xw5.cell? ⟨w.heap.size, 0, none⟩ = some (.int .i64 2) ∧ xw5.cell? ⟨w.heap.size, 1, none⟩ = some (.int .i64 d) ∧ xw5.cell? ⟨w.heap.size, 2, none⟩ = some (.string fr) ∧ xw5.cell? ⟨w.heap.size, 3, none⟩ = some (.string ⟨#[]⟩) ∧ xw5.cell? ⟨w.heap.size, 4, none⟩ = some (.int .i64 0) ∧ xw5.cell? ⟨w.heap.size, 5, none⟩ = some (.int .i64 0) ∧ xw5.cell? ⟨w.heap.size, 6, none⟩ = some (.int .i64 am) ∧ xw5.cell? ⟨w.heap.size, 7, none⟩ = some (.bool pu) ∧ xw5.cell? ⟨vb, pa, none⟩ = some (.string sa) ∧ xw5.cell? ⟨vb, pa + 1, none⟩ = some (.int .i64 va) ∧ xw5.cell? ⟨vb, pa + 2, none⟩ = some (.int .i64 ma) ∧ xw5.cell? ⟨vb, pa + 3, none⟩ = some (.int .i64 a0) ∧ xw5.cell? ⟨vb, pa + 4, none⟩ = some (.int .i64 a1) ∧ xw5.cell? ⟨vb, pa + 5, none⟩ = some (.int .i64 a2) ∧ xw5.cell? ⟨rb, 0, none⟩ = some (.slice (some ⟨vb, 0, none⟩) n cap) ∧ xw5.cell? ⟨rb, 1, none⟩ = some (.int .i64 g0) ∧ xw5.cell? ⟨rb, 2, none⟩ = some (.int .i64 g1) ∧ xw5.cell? ⟨rb, 3, none⟩ = some (.int .i64 g2) ∧ xw5.cell? ⟨rb, 4, none⟩ = some (.int .i64 k0) ∧ xw5.cell? ⟨rb, 5, none⟩ = some (.int .i64 k1) ∧ xw5.cell? ⟨rb, 6, none⟩ = some (.int .i64 k2) ∧ xw5.cell? ⟨rb, 7, none⟩ = some (.int .i64 day) := by refine ⟨?_, ?_, ?_, ?_, ?_, ?_, ?_, ?_, ?_, ?_, ?_, ?_, ?_, ?_, ?_, ?_, ?_, ?_, ?_, ?_, ?_, ?_⟩ <;> (rw [(bcell hbx5).1 _ _ (by first | (simp; done) | (simp; omega) | omega)]; simp [go_sem, cP, *])
    obtain ⟨x5f1, x5f2⟩ : (∀ j, xw5.frozen? ⟨vb, j, none⟩ = false) ∧ (∀ j, xw5.frozen? ⟨rb, j, none⟩ = false) := by refine ⟨?_, ?_⟩ <;> (intro j; rw [(bcell hbx5).2 _ _ (by first | (simp; done) | (simp; omega) | omega)]; simp [go_sem, *])
    obtain ⟨x5o0, x5n0, x5t0_0, x5t0_1, x5o1, x5n1, x5t1_0, x5t1_1, x5o2, x5n2, x5t2_0, x5t2_1⟩ : w.heap.size < xw5.heap.size ∧ xw5.heap.size ≠ w.heap.size ∧ w.heap.size < xw5.heap.size + 1 ∧ w.heap.size < xw5.heap.size + 1 + 1 ∧ vb < xw5.heap.size ∧ xw5.heap.size ≠ vb ∧ vb < xw5.heap.size + 1 ∧ vb < xw5.heap.size + 1 + 1 ∧ rb < xw5.heap.size ∧ xw5.heap.size ≠ rb ∧ rb < xw5.heap.size + 1 ∧ rb < xw5.heap.size + 1 + 1 := by refine ⟨?_, ?_, ?_, ?_, ?_, ?_, ?_, ?_, ?_, ?_, ?_, ?_⟩ <;> omega
    have hBx5 : Below w.heap.size w xw5 := belA
    clear hbx5 x4_0_0 x4_0_1 x4_0_2 x4_0_3 x4_0_4 x4_0_5 x4_0_6 x4_0_7 x4_1_0 x4_1_1 x4_1_2 x4_1_3 x4_1_4 x4_1_5 x4_2_0 x4_2_1 x4_2_2 x4_2_3 x4_2_4 x4_2_5 x4_2_6 x4_2_7 x4f1 x4f2 x4o0 x4n0 x4t0_0 x4t0_1 x4o1 x4n1 x4t1_0 x4t1_1 x4o2 x4n2 x4t2_0 x4t2_1 hBx4
    go_upto_region 10 with (fail)
    obtain ⟨y0_0_0, y0_0_1, y0_0_2, y0_0_3, y0_0_4, y0_0_5, y0_0_6, y0_0_7, y0_1_0, y0_1_1, y0_1_2, y0_1_3, y0_1_4, y0_1_5, y0_2_0, y0_2_1, y0_2_2, y0_2_3, y0_2_4, y0_2_5, y0_2_6, y0_2_7, y0_3_0, y0_3_1, y0_3_2⟩ : (xw5.alloc (.cells #[.int .i64 0, .int .i64 0, .int .i64 am] 49)).cell? ⟨w.heap.size, 0, none⟩ = some (.int .i64 2) ∧ (xw5.alloc (.cells #[.int .i64 0, .int .i64 0, .int .i64 am] 49)).cell? ⟨w.heap.size, 1, none⟩ = some (.int .i64 d) ∧ (xw5.alloc (.cells #[.int .i64 0, .int .i64 0, .int .i64 am] 49)).cell? ⟨w.heap.size, 2, none⟩ = some (.string fr) ∧ (xw5.alloc (.cells #[.int .i64 0, .int .i64 0, .int .i64 am] 49)).cell? ⟨w.heap.size, 3, none⟩ = some (.string ⟨#[]⟩) ∧ (xw5.alloc (.cells #[.int .i64 0, .int .i64 0, .int .i64 am] 49)).cell? ⟨w.heap.size, 4, none⟩ = some (.int .i64 0) ∧ (xw5.alloc (.cells #[.int .i64 0, .int .i64 0, .int .i64 am] 49)).cell? ⟨w.heap.size, 5, none⟩ = some (.int .i64 0) ∧ (xw5.alloc (.cells #[.int .i64 0, .int .i64 0, .int .i64 am] 49)).cell? ⟨w.heap.size, 6, none⟩ = some (.int .i64 am) ∧ (xw5.alloc (.cells #[.int .i64 0, .int .i64 0, .int .i64 am] 49)).cell? ⟨w.heap.size, 7, none⟩ = some (.bool pu) ∧ (xw5.alloc (.cells #[.int .i64 0, .int .i64 0, .int .i64 am] 49)).cell? ⟨vb, pa, none⟩ = some (.string sa) ∧ (xw5.alloc (.cells #[.int .i64 0, .int .i64 0, .int .i64 am] 49)).cell? ⟨vb, pa + 1, none⟩ = some (.int .i64 va) ∧ (xw5.alloc (.cells #[.int .i64 0, .int .i64 0, .int .i64 am] 49)).cell? ⟨vb, pa + 2, none⟩ = some (.int .i64 ma) ∧ (xw5.alloc (.cells #[.int .i64 0, .int .i64 0, .int .i64 am] 49)).cell? ⟨vb, pa + 3, none⟩ = some (.int .i64 a0) ∧ (xw5.alloc (.cells #[.int .i64 0, .int .i64 0, .int .i64 am] 49)).cell? ⟨vb, pa + 4, none⟩ = some (.int .i64 a1) ∧ (xw5.alloc (.cells #[.int .i64 0, .int .i64 0, .int .i64 am] 49)).cell? ⟨vb, pa + 5, none⟩ = some (.int .i64 a2) ∧ (xw5.alloc (.cells #[.int .i64 0, .int .i64 0, .int .i64 am] 49)).cell? ⟨rb, 0, none⟩ = some (.slice (some ⟨vb, 0, none⟩) n cap) ∧ (xw5.alloc (.cells #[.int .i64 0, .int .i64 0, .int .i64 am] 49)).cell? ⟨rb, 1, none⟩ = some (.int .i64 g0) ∧ (xw5.alloc (.cells #[.int .i64 0, .int .i64 0, .int .i64 am] 49)).cell? ⟨rb, 2, none⟩ = some (.int .i64 g1) ∧ (xw5.alloc (.cells #[.int .i64 0, .int .i64 0, .int .i64 am] 49)).cell? ⟨rb, 3, none⟩ = some (.int .i64 g2) ∧ (xw5.alloc (.cells #[.int .i64 0, .int .i64 0, .int .i64 am] 49)).cell? ⟨rb, 4, none⟩ = some (.int .i64 k0) ∧ (xw5.alloc (.cells #[.int .i64 0, .int .i64 0, .int .i64 am] 49)).cell? ⟨rb, 5, none⟩ = some (.int .i64 k1) ∧ (xw5.alloc (.cells #[.int .i64 0, .int .i64 0, .int .i64 am] 49)).cell? ⟨rb, 6, none⟩ = some (.int .i64 k2) ∧ (xw5.alloc (.cells #[.int .i64 0, .int .i64 0, .int .i64 am] 49)).cell? ⟨rb, 7, none⟩ = some (.int .i64 day) ∧ (xw5.alloc (.cells #[.int .i64 0, .int .i64 0, .int .i64 am] 49)).cell? ⟨xw5.heap.size, 0, none⟩ = some (.int .i64 0) ∧ (xw5.alloc (.cells #[.int .i64 0, .int .i64 0, .int .i64 am] 49)).cell? ⟨xw5.heap.size, 1, none⟩ = some (.int .i64 0) ∧ (xw5.alloc (.cells #[.int .i64 0, .int .i64 0, .int .i64 am] 49)).cell? ⟨xw5.heap.size, 2, none⟩ = some (.int .i64 am) := by refine ⟨?_, ?_, ?_, ?_, ?_, ?_, ?_, ?_, ?_, ?_, ?_, ?_, ?_, ?_, ?_, ?_, ?_, ?_, ?_, ?_, ?_, ?_, ?_, ?_, ?_⟩ <;> (simp [go_sem, cP, *])
    obtain ⟨y0f1, y0f2, y0f3⟩ : (∀ j, (xw5.alloc (.cells #[.int .i64 0, .int .i64 0, .int .i64 am] 49)).frozen? ⟨vb, j, none⟩ = false) ∧ (∀ j, (xw5.alloc (.cells #[.int .i64 0, .int .i64 0, .int .i64 am] 49)).frozen? ⟨rb, j, none⟩ = false) ∧ (∀ j, (xw5.alloc (.cells #[.int .i64 0, .int .i64 0, .int .i64 am] 49)).frozen? ⟨xw5.heap.size, j, none⟩ = false) := by refine ⟨?_, ?_, ?_⟩ <;> (intro j; simp [go_sem, *])
    have hzy0 : (xw5.alloc (.cells #[.int .i64 0, .int .i64 0, .int .i64 am] 49)).heap.size = xw5.heap.size + 1 := by simp
    have hDy0 : BelowD rb vb w.heap.size w (xw5.alloc (.cells #[.int .i64 0, .int .i64 0, .int .i64 am] 49)) := BelowD.of (hBx5.alloc hBx5.size _) (Nat.le_refl _)
    have hVy0 : ∀ q, q ≠ pa + 3 → q ≠ pa + 4 → q ≠ pa + 5 → (xw5.alloc (.cells #[.int .i64 0, .int .i64 0, .int .i64 am] 49)).cell? ⟨vb, q, none⟩ = w.cell? ⟨vb, q, none⟩ := fun q u0 u1 u2 => (hBx5.alloc hBx5.size _).cell (p := ⟨vb, q, none⟩) lv
    generalize hWy0 : xw5.alloc (.cells #[.int .i64 0, .int .i64 0, .int .i64 am] 49) = y0 at *
    clear hWy0
    have ly0 : w.heap.size < xw5.heap.size := by omega
    have ly1 : vb < xw5.heap.size := by omega
    have ly2 : rb < xw5.heap.size := by omega
    clear x5_0_0 x5_0_1 x5_0_2 x5_0_3 x5_0_4 x5_0_5 x5_0_6 x5_0_7 x5_1_0 x5_1_1 x5_1_2 x5_1_3 x5_1_4 x5_1_5 x5_2_0 x5_2_1 x5_2_2 x5_2_3 x5_2_4 x5_2_5 x5_2_6 x5_2_7 x5f1 x5f2 x5o0 x5n0 x5t0_0 x5t0_1 x5o1 x5n1 x5t1_0 x5t1_1 x5o2 x5n2 x5t2_0 x5t2_1 hBx5
    generalize htb : xw5.heap.size = tb at *
    clear htb
    have m1 : w.heap.size ≠ tb := by omega
    have m2 : vb ≠ tb := by omega
    have m3 : rb ≠ tb := by omega
    have m4 : tb ≠ w.heap.size := by omega
    have m5 : tb ≠ vb := by omega
    have m6 : tb ≠ rb := by omega
    have q1 : w.heap.size < y0.heap.size := by omega
    have q2 : vb < y0.heap.size := by omega
    have q3 : rb < y0.heap.size := by omega
    have q4 : tb < y0.heap.size := by omega
    refine wp_region_held_drew (S := (fun w' => w'.cell? ⟨vb, pa + 3, none⟩ = some (.int .i64 a0) ∧ w'.cell? ⟨vb, pa + 4, none⟩ = some (.int .i64 a1) ∧ w'.cell? ⟨vb, pa + 5, none⟩ = some (.int .i64 a2) ∧ w'.cell? ⟨w.heap.size, 6, none⟩ = some (.int .i64 am))) (by kernel_rfl) (by simp [go_sem, cP, *]) (fun hHeld => ?_)
    refine tkH 0 ⟨some 39, _, _, _, _, _⟩ ?_ rfl ?_ (by assumption) ?_
    rotate_left
    · (intro w hSw; (try dsimp only at hSw); go_simp; all_goals with_reducible rfl)
    try simp only [Act.put, sA, sB, sC]
    refine tkH 1 ⟨some 40, _, _, _, _, _⟩ ?_ rfl ?_ (by assumption) ?_
    rotate_left
    · (intro w hSw; (try dsimp only at hSw); go_simp; all_goals with_reducible rfl)
    try simp only [Act.put, sA, sB, sC]
    refine tkH 2 ⟨some 41, _, _, _, _, _⟩ ?_ rfl ?_ (by assumption) ?_
    rotate_left
    · (intro w hSw; (try dsimp only at hSw); go_simp; all_goals with_reducible rfl)
    try simp only [Act.put, sA, sB, sC]
    refine tkH 3 ⟨some 42, _, _, _, _, _⟩ ?_ rfl ?_ (by assumption) ?_
    rotate_left
    · (intro w hSw; (try dsimp only at hSw); go_simp; all_goals with_reducible rfl)
    try simp only [Act.put, sA, sB, sC]
    refine tkH 4 ⟨some 43, _, _, _, _, _⟩ ?_ rfl ?_ (by assumption) ?_
    rotate_left
    · (intro w hSw; (try dsimp only at hSw); go_simp; all_goals with_reducible rfl)
    try simp only [Act.put, sA, sB, sC]
    refine tkH 5 ⟨some 44, _, _, _, _, _⟩ ?_ rfl ?_ (by assumption) ?_
    rotate_left
    · (intro w hSw; (try dsimp only at hSw); go_simp; all_goals with_reducible rfl)
    try simp only [Act.put, sA, sB, sC]
    refine wpAnyH_ready (rs := [6]) (by kernel_rfl) (by simp) ?_
    refine AllReadyH.cons rfl (fun K hK => ?_) AllReadyH.nil
    go_simp
    refine (shareOf_any a0 a1 a2 am X Y Z _ hcA (by omega) le sh).mono ?_
    rintro e p1w1 ⟨rfl, hbp11⟩
    have zp11 := hbp11.size
    try simp at zp11
    obtain ⟨p11_0_0, p11_0_1, p11_0_2, p11_0_3, p11_0_4, p11_0_5, p11_0_6, p11_0_7, p11_1_0, p11_1_1, p11_1_2, p11_1_3, p11_1_4, p11_1_5, p11_2_0, p11_2_1, p11_2_2, p11_2_3, p11_2_4, p11_2_5, p11_2_6, p11_2_7, p11_3_0, p11_3_1, p11_3_2⟩ : p1w1.cell? ⟨w.heap.size, 0, none⟩ = some (.int .i64 2) ∧ p1w1.cell? ⟨w.heap.size, 1, none⟩ = some (.int .i64 d) ∧ p1w1.cell? ⟨w.heap.size, 2, none⟩ = some (.string fr) ∧ p1w1.cell? ⟨w.heap.size, 3, none⟩ = some (.string ⟨#[]⟩) ∧ p1w1.cell? ⟨w.heap.size, 4, none⟩ = some (.int .i64 0) ∧ p1w1.cell? ⟨w.heap.size, 5, none⟩ = some (.int .i64 0) ∧ p1w1.cell? ⟨w.heap.size, 6, none⟩ = some (.int .i64 am) ∧ p1w1.cell? ⟨w.heap.size, 7, none⟩ = some (.bool pu) ∧ p1w1.cell? ⟨vb, pa, none⟩ = some (.string sa) ∧ p1w1.cell? ⟨vb, pa + 1, none⟩ = some (.int .i64 va) ∧ p1w1.cell? ⟨vb, pa + 2, none⟩ = some (.int .i64 ma) ∧ p1w1.cell? ⟨vb, pa + 3, none⟩ = some (.int .i64 a0) ∧ p1w1.cell? ⟨vb, pa + 4, none⟩ = some (.int .i64 a1) ∧ p1w1.cell? ⟨vb, pa + 5, none⟩ = some (.int .i64 a2) ∧ p1w1.cell? ⟨rb, 0, none⟩ = some (.slice (some ⟨vb, 0, none⟩) n cap) ∧ p1w1.cell? ⟨rb, 1, none⟩ = some (.int .i64 g0) ∧ p1w1.cell? ⟨rb, 2, none⟩ = some (.int .i64 g1) ∧ p1w1.cell? ⟨rb, 3, none⟩ = some (.int .i64 g2) ∧ p1w1.cell? ⟨rb, 4, none⟩ = some (.int .i64 k0) ∧ p1w1.cell? ⟨rb, 5, none⟩ = some (.int .i64 k1) ∧ p1w1.cell? ⟨rb, 6, none⟩ = some (.int .i64 k2) ∧ p1w1.cell? ⟨rb, 7, none⟩ = some (.int .i64 day) ∧ p1w1.cell? ⟨tb, 0, none⟩ = some (.int .i64 0) ∧ p1w1.cell? ⟨tb, 1, none⟩ = some (.int .i64 0) ∧ p1w1.cell? ⟨tb, 2, none⟩ = some (.int .i64 am) := by refine ⟨?_, ?_, ?_, ?_, ?_, ?_, ?_, ?_, ?_, ?_, ?_, ?_, ?_, ?_, ?_, ?_, ?_, ?_, ?_, ?_, ?_, ?_, ?_, ?_, ?_⟩ <;> (rw [(bcell hbp11).1 _ _ (by first | (simp; done) | (simp; omega) | omega)]; simp [go_sem, cP, *])
    obtain ⟨p11f1, p11f2, p11f3⟩ : (∀ j, p1w1.frozen? ⟨vb, j, none⟩ = false) ∧ (∀ j, p1w1.frozen? ⟨rb, j, none⟩ = false) ∧ (∀ j, p1w1.frozen? ⟨tb, j, none⟩ = false) := by refine ⟨?_, ?_, ?_⟩ <;> (intro j; rw [(bcell hbp11).2 _ _ (by first | (simp; done) | (simp; omega) | omega)]; simp [go_sem, *])
    obtain ⟨p11o0, p11n0, p11o1, p11n1, p11o2, p11n2, p11o3, p11n3⟩ : w.heap.size < p1w1.heap.size ∧ p1w1.heap.size ≠ w.heap.size ∧ vb < p1w1.heap.size ∧ p1w1.heap.size ≠ vb ∧ rb < p1w1.heap.size ∧ p1w1.heap.size ≠ rb ∧ tb < p1w1.heap.size ∧ p1w1.heap.size ≠ tb := by refine ⟨?_, ?_, ?_, ?_, ?_, ?_, ?_, ?_⟩ <;> omega
    have hBp11 : Below y0.heap.size y0 p1w1 := belA
    clear hbp11 y0_0_0 y0_0_1 y0_0_2 y0_0_3 y0_0_4 y0_0_5 y0_0_6 y0_0_7 y0_1_0 y0_1_1 y0_1_2 y0_1_3 y0_1_4 y0_1_5 y0_2_0 y0_2_1 y0_2_2 y0_2_3 y0_2_4 y0_2_5 y0_2_6 y0_2_7 y0_3_0 y0_3_1 y0_3_2 y0f1 y0f2 y0f3 q1 q2 q3 q4
    go_wp2_with fail
    refine hK.out _ _ (by simp [go_sem, cP, *]) (fun hHeld => ?_)
    clear hK K
    try simp only [Act.put, sA, sB, sC]
    refine wpAnyH_ready (rs := [7]) (by kernel_rfl) (by simp) ?_
    refine AllReadyH.cons rfl (fun K hK => ?_) AllReadyH.nil
    go_simp
    go_wp2_with fail
    refine hK.out _ _ (by simp [go_sem, cP, *]) (fun hHeld => ?_)
    clear hK K
    try simp only [Act.put, sA, sB, sC]
    refine wpAnyH_done (by kernel_rfl) ?_ _
    obtain ⟨y1_0_0, y1_0_1, y1_0_2, y1_0_3, y1_0_4, y1_0_5, y1_0_6, y1_0_7, y1_1_0, y1_1_1, y1_1_2, y1_1_3, y1_1_4, y1_1_5, y1_2_0, y1_2_1, y1_2_2, y1_2_3, y1_2_4, y1_2_5, y1_2_6, y1_2_7, y1_3_0, y1_3_1, y1_3_2⟩ : (((p1w1.setCell ⟨tb, 0, none⟩ (.int .i64 X)).setCell ⟨tb, 1, none⟩ (.int .i64 Y)).setCell ⟨tb, 2, none⟩ (.int .i64 Z)).cell? ⟨w.heap.size, 0, none⟩ = some (.int .i64 2) ∧ (((p1w1.setCell ⟨tb, 0, none⟩ (.int .i64 X)).setCell ⟨tb, 1, none⟩ (.int .i64 Y)).setCell ⟨tb, 2, none⟩ (.int .i64 Z)).cell? ⟨w.heap.size, 1, none⟩ = some (.int .i64 d) ∧ (((p1w1.setCell ⟨tb, 0, none⟩ (.int .i64 X)).setCell ⟨tb, 1, none⟩ (.int .i64 Y)).setCell ⟨tb, 2, none⟩ (.int .i64 Z)).cell? ⟨w.heap.size, 2, none⟩ = some (.string fr) ∧ (((p1w1.setCell ⟨tb, 0, none⟩ (.int .i64 X)).setCell ⟨tb, 1, none⟩ (.int .i64 Y)).setCell ⟨tb, 2, none⟩ (.int .i64 Z)).cell? ⟨w.heap.size, 3, none⟩ = some (.string ⟨#[]⟩) ∧ (((p1w1.setCell ⟨tb, 0, none⟩ (.int .i64 X)).setCell ⟨tb, 1, none⟩ (.int .i64 Y)).setCell ⟨tb, 2, none⟩ (.int .i64 Z)).cell? ⟨w.heap.size, 4, none⟩ = some (.int .i64 0) ∧ (((p1w1.setCell ⟨tb, 0, none⟩ (.int .i64 X)).setCell ⟨tb, 1, none⟩ (.int .i64 Y)).setCell ⟨tb, 2, none⟩ (.int .i64 Z)).cell? ⟨w.heap.size, 5, none⟩ = some (.int .i64 0) ∧ (((p1w1.setCell ⟨tb, 0, none⟩ (.int .i64 X)).setCell ⟨tb, 1, none⟩ (.int .i64 Y)).setCell ⟨tb, 2, none⟩ (.int .i64 Z)).cell? ⟨w.heap.size, 6, none⟩ = some (.int .i64 am) ∧ (((p1w1.setCell ⟨tb, 0, none⟩ (.int .i64 X)).setCell ⟨tb, 1, none⟩ (.int .i64 Y)).setCell ⟨tb, 2, none⟩ (.int .i64 Z)).cell? ⟨w.heap.size, 7, none⟩ = some (.bool pu) ∧ (((p1w1.setCell ⟨tb, 0, none⟩ (.int .i64 X)).setCell ⟨tb, 1, none⟩ (.int .i64 Y)).setCell ⟨tb, 2, none⟩ (.int .i64 Z)).cell? ⟨vb, pa, none⟩ = some (.string sa) ∧ (((p1w1.setCell ⟨tb, 0, none⟩ (.int .i64 X)).setCell ⟨tb, 1, none⟩ (.int .i64 Y)).setCell ⟨tb, 2, none⟩ (.int .i64 Z)).cell? ⟨vb, pa + 1, none⟩ = some (.int .i64 va) ∧ (((p1w1.setCell ⟨tb, 0, none⟩ (.int .i64 X)).setCell ⟨tb, 1, none⟩ (.int .i64 Y)).setCell ⟨tb, 2, none⟩ (.int .i64 Z)).cell? ⟨vb, pa + 2, none⟩ = some (.int .i64 ma) ∧ (((p1w1.setCell ⟨tb, 0, none⟩ (.int .i64 X)).setCell ⟨tb, 1, none⟩ (.int .i64 Y)).setCell ⟨tb, 2, none⟩ (.int .i64 Z)).cell? ⟨vb, pa + 3, none⟩ = some (.int .i64 a0) ∧ (((p1w1.setCell ⟨tb, 0, none⟩ (.int .i64 X)).setCell ⟨tb, 1, none⟩ (.int .i64 Y)).setCell ⟨tb, 2, none⟩ (.int .i64 Z)).cell? ⟨vb, pa + 4, none⟩ = some (.int .i64 a1) ∧ (((p1w1.setCell ⟨tb, 0, none⟩ (.int .i64 X)).setCell ⟨tb, 1, none⟩ (.int .i64 Y)).setCell ⟨tb, 2, none⟩ (.int .i64 Z)).cell? ⟨vb, pa + 5, none⟩ = some (.int .i64 a2) ∧ (((p1w1.setCell ⟨tb, 0, none⟩ (.int .i64 X)).setCell ⟨tb, 1, none⟩ (.int .i64 Y)).setCell ⟨tb, 2, none⟩ (.int .i64 Z)).cell? ⟨rb, 0, none⟩ = some (.slice (some ⟨vb, 0, none⟩) n cap) ∧ (((p1w1.setCell ⟨tb, 0, none⟩ (.int .i64 X)).setCell ⟨tb, 1, none⟩ (.int .i64 Y)).setCell ⟨tb, 2, none⟩ (.int .i64 Z)).cell? ⟨rb, 1, none⟩ = some (.int .i64 g0) ∧ (((p1w1.setCell ⟨tb, 0, none⟩ (.int .i64 X)).setCell ⟨tb, 1, none⟩ (.int .i64 Y)).setCell ⟨tb, 2, none⟩ (.int .i64 Z)).cell? ⟨rb, 2, none⟩ = some (.int .i64 g1) ∧ (((p1w1.setCell ⟨tb, 0, none⟩ (.int .i64 X)).setCell ⟨tb, 1, none⟩ (.int .i64 Y)).setCell ⟨tb, 2, none⟩ (.int .i64 Z)).cell? ⟨rb, 3, none⟩ = some (.int .i64 g2) ∧ (((p1w1.setCell ⟨tb, 0, none⟩ (.int .i64 X)).setCell ⟨tb, 1, none⟩ (.int .i64 Y)).setCell ⟨tb, 2, none⟩ (.int .i64 Z)).cell? ⟨rb, 4, none⟩ = some (.int .i64 k0) ∧ (((p1w1.setCell ⟨tb, 0, none⟩ (.int .i64 X)).setCell ⟨tb, 1, none⟩ (.int .i64 Y)).setCell ⟨tb, 2, none⟩ (.int .i64 Z)).cell? ⟨rb, 5, none⟩ = some (.int .i64 k1) ∧ (((p1w1.setCell ⟨tb, 0, none⟩ (.int .i64 X)).setCell ⟨tb, 1, none⟩ (.int .i64 Y)).setCell ⟨tb, 2, none⟩ (.int .i64 Z)).cell? ⟨rb, 6, none⟩ = some (.int .i64 k2) ∧ (((p1w1.setCell ⟨tb, 0, none⟩ (.int .i64 X)).setCell ⟨tb, 1, none⟩ (.int .i64 Y)).setCell ⟨tb, 2, none⟩ (.int .i64 Z)).cell? ⟨rb, 7, none⟩ = some (.int .i64 day) ∧ (((p1w1.setCell ⟨tb, 0, none⟩ (.int .i64 X)).setCell ⟨tb, 1, none⟩ (.int .i64 Y)).setCell ⟨tb, 2, none⟩ (.int .i64 Z)).cell? ⟨tb, 0, none⟩ = some (.int .i64 X) ∧ (((p1w1.setCell ⟨tb, 0, none⟩ (.int .i64 X)).setCell ⟨tb, 1, none⟩ (.int .i64 Y)).setCell ⟨tb, 2, none⟩ (.int .i64 Z)).cell? ⟨tb, 1, none⟩ = some (.int .i64 Y) ∧ (((p1w1.setCell ⟨tb, 0, none⟩ (.int .i64 X)).setCell ⟨tb, 1, none⟩ (.int .i64 Y)).setCell ⟨tb, 2, none⟩ (.int .i64 Z)).cell? ⟨tb, 2, none⟩ = some (.int .i64 Z) := by refine ⟨?_, ?_, ?_, ?_, ?_, ?_, ?_, ?_, ?_, ?_, ?_, ?_, ?_, ?_, ?_, ?_, ?_, ?_, ?_, ?_, ?_, ?_, ?_, ?_, ?_⟩ <;> (simp [go_sem, cP, *])
    obtain ⟨y1f1, y1f2, y1f3⟩ : (∀ j, (((p1w1.setCell ⟨tb, 0, none⟩ (.int .i64 X)).setCell ⟨tb, 1, none⟩ (.int .i64 Y)).setCell ⟨tb, 2, none⟩ (.int .i64 Z)).frozen? ⟨vb, j, none⟩ = false) ∧ (∀ j, (((p1w1.setCell ⟨tb, 0, none⟩ (.int .i64 X)).setCell ⟨tb, 1, none⟩ (.int .i64 Y)).setCell ⟨tb, 2, none⟩ (.int .i64 Z)).frozen? ⟨rb, j, none⟩ = false) ∧ (∀ j, (((p1w1.setCell ⟨tb, 0, none⟩ (.int .i64 X)).setCell ⟨tb, 1, none⟩ (.int .i64 Y)).setCell ⟨tb, 2, none⟩ (.int .i64 Z)).frozen? ⟨tb, j, none⟩ = false) := by refine ⟨?_, ?_, ?_⟩ <;> (intro j; simp [go_sem, *])
    have hzy1 : (((p1w1.setCell ⟨tb, 0, none⟩ (.int .i64 X)).setCell ⟨tb, 1, none⟩ (.int .i64 Y)).setCell ⟨tb, 2, none⟩ (.int .i64 Z)).heap.size = p1w1.heap.size := by simp
    have hDy1 : BelowD rb vb w.heap.size w (((p1w1.setCell ⟨tb, 0, none⟩ (.int .i64 X)).setCell ⟨tb, 1, none⟩ (.int .i64 Y)).setCell ⟨tb, 2, none⟩ (.int .i64 Z)) := (((hDy0.trans (BelowD.of hBp11 (by omega))).set tb (0) _ (Or.inr (Or.inr (by omega)))).set tb (1) _ (Or.inr (Or.inr (by omega)))).set tb (2) _ (Or.inr (Or.inr (by omega)))
    have hVy1 : ∀ q, q ≠ pa + 3 → q ≠ pa + 4 → q ≠ pa + 5 → (((p1w1.setCell ⟨tb, 0, none⟩ (.int .i64 X)).setCell ⟨tb, 1, none⟩ (.int .i64 Y)).setCell ⟨tb, 2, none⟩ (.int .i64 Z)).cell? ⟨vb, q, none⟩ = w.cell? ⟨vb, q, none⟩ := fun q u0 u1 u2 => by rw [sblk (by first | assumption | omega), sblk (by first | assumption | omega), sblk (by first | assumption | omega), hBp11.cell (p := ⟨vb, q, none⟩) (by show vb < _; omega)]; exact hVy0 q u0 u1 u2
    have zsy1 : y0.heap.size ≤ (((p1w1.setCell ⟨tb, 0, none⟩ (.int .i64 X)).setCell ⟨tb, 1, none⟩ (.int .i64 Y)).setCell ⟨tb, 2, none⟩ (.int .i64 Z)).heap.size := by rw [hzy1]; exact hBp11.size
    clear p11_0_0 p11_0_1 p11_0_2 p11_0_3 p11_0_4 p11_0_5 p11_0_6 p11_0_7 p11_1_0 p11_1_1 p11_1_2 p11_1_3 p11_1_4 p11_1_5 p11_2_0 p11_2_1 p11_2_2 p11_2_3 p11_2_4 p11_2_5 p11_2_6 p11_2_7 p11_3_0 p11_3_1 p11_3_2 p11f1 p11f2 p11f3 p11o0 p11n0 p11o1 p11n1 p11o2 p11n2 p11o3 p11n3 hBp11
    generalize hWy1 : ((p1w1.setCell ⟨tb, 0, none⟩ (.int .i64 X)).setCell ⟨tb, 1, none⟩ (.int .i64 Y)).setCell ⟨tb, 2, none⟩ (.int .i64 Z) = y1 at *
    clear hWy1
    have q1y1 : w.heap.size < y1.heap.size := by omega
    have q2y1 : vb < y1.heap.size := by omega
    have q3y1 : rb < y1.heap.size := by omega
    have q4y1 : tb < y1.heap.size := by omega
    go_upto_region 11 with (fail)
    refine wp_region_Z (S := (fun w' => w'.cell? ⟨vb, pa + 3, none⟩ = some (.int .i64 a0) ∧ w'.cell? ⟨vb, pa + 4, none⟩ = some (.int .i64 a1) ∧ w'.cell? ⟨vb, pa + 5, none⟩ = some (.int .i64 a2) ∧ w'.cell? ⟨tb, 0, none⟩ = some (.int .i64 X) ∧ w'.cell? ⟨tb, 1, none⟩ = some (.int .i64 Y) ∧ w'.cell? ⟨tb, 2, none⟩ = some (.int .i64 Z))) 9 (by kernel_rfl) (by kernel_rfl) (by kernel_rfl) (by simp [go_sem, cP, *]) (fun hHeld => ?_)
    refine wpAnyZ_take (i := 0) (oi := ⟨some 46, _, _, _, _, _⟩) (v := ?_) (by kernel_rfl) (by kernel_rfl) rfl rfl (by kernel_rfl) (by kernel_rfl) (by kernel_rfl) (fun _ _ _ h => h) (Or.inl ⟨by kernel_rfl, ?_⟩) (by assumption) ?_
    rotate_left
    · (intro w hSw; (try dsimp only at hSw); go_simp; all_goals with_reducible rfl)
    try simp only [Act.put, List.setIfInBounds_toArray, List.set_cons_zero, List.set_cons_succ]
    refine wpAnyZ_take (i := 1) (oi := ⟨some 47, _, _, _, _, _⟩) (v := ?_) (by kernel_rfl) (by kernel_rfl) rfl rfl (by kernel_rfl) (by kernel_rfl) (by kernel_rfl) (fun _ _ _ h => h) (Or.inl ⟨by kernel_rfl, ?_⟩) (by assumption) ?_
    rotate_left
    · (intro w hSw; (try dsimp only at hSw); go_simp; all_goals with_reducible rfl)
    try simp only [Act.put, List.setIfInBounds_toArray, List.set_cons_zero, List.set_cons_succ]
    refine wpAnyZ_take (i := 2) (oi := ⟨some 48, _, _, _, _, _⟩) (v := ?_) (by kernel_rfl) (by kernel_rfl) rfl rfl (by kernel_rfl) (by kernel_rfl) (by kernel_rfl) (fun _ _ _ h => h) (Or.inl ⟨by kernel_rfl, ?_⟩) (by assumption) ?_
    rotate_left
    · (intro w hSw; (try dsimp only at hSw); go_simp; all_goals with_reducible rfl)
    try simp only [Act.put, List.setIfInBounds_toArray, List.set_cons_zero, List.set_cons_succ]
    refine wpAnyZ_take (i := 3) (oi := ⟨some 49, _, _, _, _, _⟩) (v := ?_) (by kernel_rfl) (by kernel_rfl) rfl rfl (by kernel_rfl) (by kernel_rfl) (by kernel_rfl) (fun _ _ _ h => h) (Or.inl ⟨by kernel_rfl, ?_⟩) (by assumption) ?_
    rotate_left
    · (intro w hSw; (try dsimp only at hSw); go_simp; all_goals with_reducible rfl)
    try simp only [Act.put, List.setIfInBounds_toArray, List.set_cons_zero, List.set_cons_succ]
    refine wpAnyZ_take (i := 4) (oi := ⟨some 50, _, _, _, _, _⟩) (v := ?_) (by kernel_rfl) (by kernel_rfl) rfl rfl (by kernel_rfl) (by kernel_rfl) (by kernel_rfl) (fun _ _ _ h => h) (Or.inl ⟨by kernel_rfl, ?_⟩) (by assumption) ?_
    rotate_left
    · (intro w hSw; (try dsimp only at hSw); go_simp; all_goals with_reducible rfl)
    try simp only [Act.put, List.setIfInBounds_toArray, List.set_cons_zero, List.set_cons_succ]
    refine wpAnyZ_take (i := 5) (oi := ⟨some 51, _, _, _, _, _⟩) (v := ?_) (by kernel_rfl) (by kernel_rfl) rfl rfl (by kernel_rfl) (by kernel_rfl) (by kernel_rfl) (fun _ _ _ h => h) (Or.inl ⟨by kernel_rfl, ?_⟩) (by assumption) ?_
    rotate_left
    · (intro w hSw; (try dsimp only at hSw); go_simp; all_goals with_reducible rfl)
    try simp only [Act.put, List.setIfInBounds_toArray, List.set_cons_zero, List.set_cons_succ]
    refine wpAnyZ_call (q := 6) (by kernel_rfl) rfl rfl (fun K hK => ?_)
    go_simp
    refine (without_any a0 a1 a2 X Y Z n0 n1 n2 _ (by omega) (by omega) (by omega) (by omega) (by omega) (by omega) (by omega) (by omega) (by omega) (by omega) (by omega) (by omega) hN).mono ?_
    rintro e p2w1 ⟨rfl, hbp21⟩
    have zp21 := hbp21.size
    try simp at zp21
    obtain ⟨p21_0_0, p21_0_1, p21_0_2, p21_0_3, p21_0_4, p21_0_5, p21_0_6, p21_0_7, p21_1_0, p21_1_1, p21_1_2, p21_1_3, p21_1_4, p21_1_5, p21_2_0, p21_2_1, p21_2_2, p21_2_3, p21_2_4, p21_2_5, p21_2_6, p21_2_7, p21_3_0, p21_3_1, p21_3_2⟩ : p2w1.cell? ⟨w.heap.size, 0, none⟩ = some (.int .i64 2) ∧ p2w1.cell? ⟨w.heap.size, 1, none⟩ = some (.int .i64 d) ∧ p2w1.cell? ⟨w.heap.size, 2, none⟩ = some (.string fr) ∧ p2w1.cell? ⟨w.heap.size, 3, none⟩ = some (.string ⟨#[]⟩) ∧ p2w1.cell? ⟨w.heap.size, 4, none⟩ = some (.int .i64 0) ∧ p2w1.cell? ⟨w.heap.size, 5, none⟩ = some (.int .i64 0) ∧ p2w1.cell? ⟨w.heap.size, 6, none⟩ = some (.int .i64 am) ∧ p2w1.cell? ⟨w.heap.size, 7, none⟩ = some (.bool pu) ∧ p2w1.cell? ⟨vb, pa, none⟩ = some (.string sa) ∧ p2w1.cell? ⟨vb, pa + 1, none⟩ = some (.int .i64 va) ∧ p2w1.cell? ⟨vb, pa + 2, none⟩ = some (.int .i64 ma) ∧ p2w1.cell? ⟨vb, pa + 3, none⟩ = some (.int .i64 a0) ∧ p2w1.cell? ⟨vb, pa + 4, none⟩ = some (.int .i64 a1) ∧ p2w1.cell? ⟨vb, pa + 5, none⟩ = some (.int .i64 a2) ∧ p2w1.cell? ⟨rb, 0, none⟩ = some (.slice (some ⟨vb, 0, none⟩) n cap) ∧ p2w1.cell? ⟨rb, 1, none⟩ = some (.int .i64 g0) ∧ p2w1.cell? ⟨rb, 2, none⟩ = some (.int .i64 g1) ∧ p2w1.cell? ⟨rb, 3, none⟩ = some (.int .i64 g2) ∧ p2w1.cell? ⟨rb, 4, none⟩ = some (.int .i64 k0) ∧ p2w1.cell? ⟨rb, 5, none⟩ = some (.int .i64 k1) ∧ p2w1.cell? ⟨rb, 6, none⟩ = some (.int .i64 k2) ∧ p2w1.cell? ⟨rb, 7, none⟩ = some (.int .i64 day) ∧ p2w1.cell? ⟨tb, 0, none⟩ = some (.int .i64 X) ∧ p2w1.cell? ⟨tb, 1, none⟩ = some (.int .i64 Y) ∧ p2w1.cell? ⟨tb, 2, none⟩ = some (.int .i64 Z) := by refine ⟨?_, ?_, ?_, ?_, ?_, ?_, ?_, ?_, ?_, ?_, ?_, ?_, ?_, ?_, ?_, ?_, ?_, ?_, ?_, ?_, ?_, ?_, ?_, ?_, ?_⟩ <;> (rw [(bcell hbp21).1 _ _ (by first | (simp; done) | (simp; omega) | omega)]; simp [go_sem, cP, *])
    obtain ⟨p21f1, p21f2, p21f3⟩ : (∀ j, p2w1.frozen? ⟨vb, j, none⟩ = false) ∧ (∀ j, p2w1.frozen? ⟨rb, j, none⟩ = false) ∧ (∀ j, p2w1.frozen? ⟨tb, j, none⟩ = false) := by refine ⟨?_, ?_, ?_⟩ <;> (intro j; rw [(bcell hbp21).2 _ _ (by first | (simp; done) | (simp; omega) | omega)]; simp [go_sem, *])
    obtain ⟨p21o0, p21n0, p21o1, p21n1, p21o2, p21n2, p21o3, p21n3⟩ : w.heap.size < p2w1.heap.size ∧ p2w1.heap.size ≠ w.heap.size ∧ vb < p2w1.heap.size ∧ p2w1.heap.size ≠ vb ∧ rb < p2w1.heap.size ∧ p2w1.heap.size ≠ rb ∧ tb < p2w1.heap.size ∧ p2w1.heap.size ≠ tb := by refine ⟨?_, ?_, ?_, ?_, ?_, ?_, ?_, ?_⟩ <;> omega
    have hBp21 : Below y1.heap.size y1 p2w1 := belA
    clear hbp21 y1_0_0 y1_0_1 y1_0_2 y1_0_3 y1_0_4 y1_0_5 y1_0_6 y1_0_7 y1_1_0 y1_1_1 y1_1_2 y1_1_3 y1_1_4 y1_1_5 y1_2_0 y1_2_1 y1_2_2 y1_2_3 y1_2_4 y1_2_5 y1_2_6 y1_2_7 y1_3_0 y1_3_1 y1_3_2 y1f1 y1f2 y1f3 q1y1 q2y1 q3y1 q4y1
    go_wp2_with fail
    refine hK.out _ _ (by simp [go_sem, cP, *]) (fun hHeld => ?_)
    clear hK K
    try simp only [Act.put, List.setIfInBounds_toArray, List.set_cons_zero, List.set_cons_succ]
    refine wpAnyZ_take (i := 7) (oi := ⟨some 53, _, _, _, _, _⟩) (v := ?_) (by kernel_rfl) (by kernel_rfl) rfl rfl (by kernel_rfl) (by kernel_rfl) (by kernel_rfl) (fun _ _ _ h => h) (Or.inl ⟨by kernel_rfl, ?_⟩) (by assumption) ?_
    rotate_left
    · (intro w hSw; (try dsimp only at hSw); go_simp; all_goals with_reducible rfl)
    try simp only [Act.put, List.setIfInBounds_toArray, List.set_cons_zero, List.set_cons_succ]
    refine wpAnyZ_take (i := 8) (oi := ⟨some 54, _, _, _, _, _⟩) (v := ?_) (by kernel_rfl) (by kernel_rfl) rfl rfl (by kernel_rfl) (by kernel_rfl) (by kernel_rfl) (fun _ _ _ h => h) (Or.inl ⟨by kernel_rfl, ?_⟩) (by assumption) ?_
    rotate_left
    · (intro w hSw; (try dsimp only at hSw); go_simp; all_goals with_reducible rfl)
    try simp only [Act.put, List.setIfInBounds_toArray, List.set_cons_zero, List.set_cons_succ]
    refine wpAnyZ_last (by kernel_rfl) rfl (fun K hK => ?_)
    go_simp
    go_wp2_with fail
    refine hK.out _ _ ?_
    clear hK K
    try simp only [Act.put, List.setIfInBounds_toArray, List.set_cons_zero, List.set_cons_succ]
    obtain ⟨y2_0_0, y2_0_1, y2_0_2, y2_0_3, y2_0_4, y2_0_5, y2_0_6, y2_0_7, y2_1_0, y2_1_1, y2_1_2, y2_1_3, y2_1_4, y2_1_5, y2_2_0, y2_2_1, y2_2_2, y2_2_3, y2_2_4, y2_2_5, y2_2_6, y2_2_7, y2_3_0, y2_3_1, y2_3_2⟩ : (((p2w1.setCell ⟨vb, pa + 3, none⟩ (.int .i64 n0)).setCell ⟨vb, pa + 4, none⟩ (.int .i64 n1)).setCell ⟨vb, pa + 5, none⟩ (.int .i64 n2)).cell? ⟨w.heap.size, 0, none⟩ = some (.int .i64 2) ∧ (((p2w1.setCell ⟨vb, pa + 3, none⟩ (.int .i64 n0)).setCell ⟨vb, pa + 4, none⟩ (.int .i64 n1)).setCell ⟨vb, pa + 5, none⟩ (.int .i64 n2)).cell? ⟨w.heap.size, 1, none⟩ = some (.int .i64 d) ∧ (((p2w1.setCell ⟨vb, pa + 3, none⟩ (.int .i64 n0)).setCell ⟨vb, pa + 4, none⟩ (.int .i64 n1)).setCell ⟨vb, pa + 5, none⟩ (.int .i64 n2)).cell? ⟨w.heap.size, 2, none⟩ = some (.string fr) ∧ (((p2w1.setCell ⟨vb, pa + 3, none⟩ (.int .i64 n0)).setCell ⟨vb, pa + 4, none⟩ (.int .i64 n1)).setCell ⟨vb, pa + 5, none⟩ (.int .i64 n2)).cell? ⟨w.heap.size, 3, none⟩ = some (.string ⟨#[]⟩) ∧ (((p2w1.setCell ⟨vb, pa + 3, none⟩ (.int .i64 n0)).setCell ⟨vb, pa + 4, none⟩ (.int .i64 n1)).setCell ⟨vb, pa + 5, none⟩ (.int .i64 n2)).cell? ⟨w.heap.size, 4, none⟩ = some (.int .i64 0) ∧ (((p2w1.setCell ⟨vb, pa + 3, none⟩ (.int .i64 n0)).setCell ⟨vb, pa + 4, none⟩ (.int .i64 n1)).setCell ⟨vb, pa + 5, none⟩ (.int .i64 n2)).cell? ⟨w.heap.size, 5, none⟩ = some (.int .i64 0) ∧ (((p2w1.setCell ⟨vb, pa + 3, none⟩ (.int .i64 n0)).setCell ⟨vb, pa + 4, none⟩ (.int .i64 n1)).setCell ⟨vb, pa + 5, none⟩ (.int .i64 n2)).cell? ⟨w.heap.size, 6, none⟩ = some (.int .i64 am) ∧ (((p2w1.setCell ⟨vb, pa + 3, none⟩ (.int .i64 n0)).setCell ⟨vb, pa + 4, none⟩ (.int .i64 n1)).setCell ⟨vb, pa + 5, none⟩ (.int .i64 n2)).cell? ⟨w.heap.size, 7, none⟩ = some (.bool pu) ∧ (((p2w1.setCell ⟨vb, pa + 3, none⟩ (.int .i64 n0)).setCell ⟨vb, pa + 4, none⟩ (.int .i64 n1)).setCell ⟨vb, pa + 5, none⟩ (.int .i64 n2)).cell? ⟨vb, pa, none⟩ = some (.string sa) ∧ (((p2w1.setCell ⟨vb, pa + 3, none⟩ (.int .i64 n0)).setCell ⟨vb, pa + 4, none⟩ (.int .i64 n1)).setCell ⟨vb, pa + 5, none⟩ (.int .i64 n2)).cell? ⟨vb, pa + 1, none⟩ = some (.int .i64 va) ∧ (((p2w1.setCell ⟨vb, pa + 3, none⟩ (.int .i64 n0)).setCell ⟨vb, pa + 4, none⟩ (.int .i64 n1)).setCell ⟨vb, pa + 5, none⟩ (.int .i64 n2)).cell? ⟨vb, pa + 2, none⟩ = some (.int .i64 ma) ∧ (((p2w1.setCell ⟨vb, pa + 3, none⟩ (.int .i64 n0)).setCell ⟨vb, pa + 4, none⟩ (.int .i64 n1)).setCell ⟨vb, pa + 5, none⟩ (.int .i64 n2)).cell? ⟨vb, pa + 3, none⟩ = some (.int .i64 n0) ∧ (((p2w1.setCell ⟨vb, pa + 3, none⟩ (.int .i64 n0)).setCell ⟨vb, pa + 4, none⟩ (.int .i64 n1)).setCell ⟨vb, pa + 5, none⟩ (.int .i64 n2)).cell? ⟨vb, pa + 4, none⟩ = some (.int .i64 n1) ∧ (((p2w1.setCell ⟨vb, pa + 3, none⟩ (.int .i64 n0)).setCell ⟨vb, pa + 4, none⟩ (.int .i64 n1)).setCell ⟨vb, pa + 5, none⟩ (.int .i64 n2)).cell? ⟨vb, pa + 5, none⟩ = some (.int .i64 n2) ∧ (((p2w1.setCell ⟨vb, pa + 3, none⟩ (.int .i64 n0)).setCell ⟨vb, pa + 4, none⟩ (.int .i64 n1)).setCell ⟨vb, pa + 5, none⟩ (.int .i64 n2)).cell? ⟨rb, 0, none⟩ = some (.slice (some ⟨vb, 0, none⟩) n cap) ∧ (((p2w1.setCell ⟨vb, pa + 3, none⟩ (.int .i64 n0)).setCell ⟨vb, pa + 4, none⟩ (.int .i64 n1)).setCell ⟨vb, pa + 5, none⟩ (.int .i64 n2)).cell? ⟨rb, 1, none⟩ = some (.int .i64 g0) ∧ (((p2w1.setCell ⟨vb, pa + 3, none⟩ (.int .i64 n0)).setCell ⟨vb, pa + 4, none⟩ (.int .i64 n1)).setCell ⟨vb, pa + 5, none⟩ (.int .i64 n2)).cell? ⟨rb, 2, none⟩ = some (.int .i64 g1) ∧ (((p2w1.setCell ⟨vb, pa + 3, none⟩ (.int .i64 n0)).setCell ⟨vb, pa + 4, none⟩ (.int .i64 n1)).setCell ⟨vb, pa + 5, none⟩ (.int .i64 n2)).cell? ⟨rb, 3, none⟩ = some (.int .i64 g2) ∧ (((p2w1.setCell ⟨vb, pa + 3, none⟩ (.int .i64 n0)).setCell ⟨vb, pa + 4, none⟩ (.int .i64 n1)).setCell ⟨vb, pa + 5, none⟩ (.int .i64 n2)).cell? ⟨rb, 4, none⟩ = some (.int .i64 k0) ∧ (((p2w1.setCell ⟨vb, pa + 3, none⟩ (.int .i64 n0)).setCell ⟨vb, pa + 4, none⟩ (.int .i64 n1)).setCell ⟨vb, pa + 5, none⟩ (.int .i64 n2)).cell? ⟨rb, 5, none⟩ = some (.int .i64 k1) ∧ (((p2w1.setCell ⟨vb, pa + 3, none⟩ (.int .i64 n0)).setCell ⟨vb, pa + 4, none⟩ (.int .i64 n1)).setCell ⟨vb, pa + 5, none⟩ (.int .i64 n2)).cell? ⟨rb, 6, none⟩ = some (.int .i64 k2) ∧ (((p2w1.setCell ⟨vb, pa + 3, none⟩ (.int .i64 n0)).setCell ⟨vb, pa + 4, none⟩ (.int .i64 n1)).setCell ⟨vb, pa + 5, none⟩ (.int .i64 n2)).cell? ⟨rb, 7, none⟩ = some (.int .i64 day) ∧ (((p2w1.setCell ⟨vb, pa + 3, none⟩ (.int .i64 n0)).setCell ⟨vb, pa + 4, none⟩ (.int .i64 n1)).setCell ⟨vb, pa + 5, none⟩ (.int .i64 n2)).cell? ⟨tb, 0, none⟩ = some (.int .i64 X) ∧ (((p2w1.setCell ⟨vb, pa + 3, none⟩ (.int .i64 n0)).setCell ⟨vb, pa + 4, none⟩ (.int .i64 n1)).setCell ⟨vb, pa + 5, none⟩ (.int .i64 n2)).cell? ⟨tb, 1, none⟩ = some (.int .i64 Y) ∧ (((p2w1.setCell ⟨vb, pa + 3, none⟩ (.int .i64 n0)).setCell ⟨vb, pa + 4, none⟩ (.int .i64 n1)).setCell ⟨vb, pa + 5, none⟩ (.int .i64 n2)).cell? ⟨tb, 2, none⟩ = some (.int .i64 Z) := by refine ⟨?_, ?_, ?_, ?_, ?_, ?_, ?_, ?_, ?_, ?_, ?_, ?_, ?_, ?_, ?_, ?_, ?_, ?_, ?_, ?_, ?_, ?_, ?_, ?_, ?_⟩ <;> (simp [go_sem, cP, *])
    obtain ⟨y2f1, y2f2, y2f3⟩ : (∀ j, (((p2w1.setCell ⟨vb, pa + 3, none⟩ (.int .i64 n0)).setCell ⟨vb, pa + 4, none⟩ (.int .i64 n1)).setCell ⟨vb, pa + 5, none⟩ (.int .i64 n2)).frozen? ⟨vb, j, none⟩ = false) ∧ (∀ j, (((p2w1.setCell ⟨vb, pa + 3, none⟩ (.int .i64 n0)).setCell ⟨vb, pa + 4, none⟩ (.int .i64 n1)).setCell ⟨vb, pa + 5, none⟩ (.int .i64 n2)).frozen? ⟨rb, j, none⟩ = false) ∧ (∀ j, (((p2w1.setCell ⟨vb, pa + 3, none⟩ (.int .i64 n0)).setCell ⟨vb, pa + 4, none⟩ (.int .i64 n1)).setCell ⟨vb, pa + 5, none⟩ (.int .i64 n2)).frozen? ⟨tb, j, none⟩ = false) := by refine ⟨?_, ?_, ?_⟩ <;> (intro j; simp [go_sem, *])
    have hzy2 : (((p2w1.setCell ⟨vb, pa + 3, none⟩ (.int .i64 n0)).setCell ⟨vb, pa + 4, none⟩ (.int .i64 n1)).setCell ⟨vb, pa + 5, none⟩ (.int .i64 n2)).heap.size = p2w1.heap.size := by simp
    have hDy2 : BelowD rb vb w.heap.size w (((p2w1.setCell ⟨vb, pa + 3, none⟩ (.int .i64 n0)).setCell ⟨vb, pa + 4, none⟩ (.int .i64 n1)).setCell ⟨vb, pa + 5, none⟩ (.int .i64 n2)) := (((hDy1.trans (BelowD.of hBp21 (by omega))).set vb (pa + 3) _ (Or.inr (Or.inl rfl))).set vb (pa + 4) _ (Or.inr (Or.inl rfl))).set vb (pa + 5) _ (Or.inr (Or.inl rfl))
    have hVy2 : ∀ q, q ≠ pa + 3 → q ≠ pa + 4 → q ≠ pa + 5 → (((p2w1.setCell ⟨vb, pa + 3, none⟩ (.int .i64 n0)).setCell ⟨vb, pa + 4, none⟩ (.int .i64 n1)).setCell ⟨vb, pa + 5, none⟩ (.int .i64 n2)).cell? ⟨vb, q, none⟩ = w.cell? ⟨vb, q, none⟩ := fun q u0 u1 u2 => by rw [soff (Ne.symm u2), soff (Ne.symm u1), soff (Ne.symm u0), hBp21.cell (p := ⟨vb, q, none⟩) (by show vb < _; omega)]; exact hVy1 q u0 u1 u2
    have zsy2 : y1.heap.size ≤ (((p2w1.setCell ⟨vb, pa + 3, none⟩ (.int .i64 n0)).setCell ⟨vb, pa + 4, none⟩ (.int .i64 n1)).setCell ⟨vb, pa + 5, none⟩ (.int .i64 n2)).heap.size := by rw [hzy2]; exact hBp21.size
    clear p21_0_0 p21_0_1 p21_0_2 p21_0_3 p21_0_4 p21_0_5 p21_0_6 p21_0_7 p21_1_0 p21_1_1 p21_1_2 p21_1_3 p21_1_4 p21_1_5 p21_2_0 p21_2_1 p21_2_2 p21_2_3 p21_2_4 p21_2_5 p21_2_6 p21_2_7 p21_3_0 p21_3_1 p21_3_2 p21f1 p21f2 p21f3 p21o0 p21n0 p21o1 p21n1 p21o2 p21n2 p21o3 p21n3 hBp21
    generalize hWy2 : ((p2w1.setCell ⟨vb, pa + 3, none⟩ (.int .i64 n0)).setCell ⟨vb, pa + 4, none⟩ (.int .i64 n1)).setCell ⟨vb, pa + 5, none⟩ (.int .i64 n2) = y2 at *
    clear hWy2
    have q1y2 : w.heap.size < y2.heap.size := by omega
    have q2y2 : vb < y2.heap.size := by omega
    have q3y2 : rb < y2.heap.size := by omega
    have q4y2 : tb < y2.heap.size := by omega
    go_upto_region 15 with (fail)
    refine wp_region_Z (S := (fun w' => w'.cell? ⟨rb, 4, none⟩ = some (.int .i64 k0) ∧ w'.cell? ⟨rb, 5, none⟩ = some (.int .i64 k1) ∧ w'.cell? ⟨rb, 6, none⟩ = some (.int .i64 k2) ∧ w'.cell? ⟨tb, 0, none⟩ = some (.int .i64 X) ∧ w'.cell? ⟨tb, 1, none⟩ = some (.int .i64 Y) ∧ w'.cell? ⟨tb, 2, none⟩ = some (.int .i64 Z))) 11 (by kernel_rfl) (by kernel_rfl) (by kernel_rfl) (by simp [go_sem, cP, *]) (fun hHeld => ?_)
    refine wpAnyZ_take (i := 0) (oi := ⟨some 77, _, _, _, _, _⟩) (v := ?_) (by kernel_rfl) (by kernel_rfl) rfl rfl (by kernel_rfl) (by kernel_rfl) (by kernel_rfl) (fun _ _ _ h => h) (Or.inl ⟨by kernel_rfl, ?_⟩) (by assumption) ?_
    rotate_left
    · (intro w hSw; (try dsimp only at hSw); go_simp; all_goals with_reducible rfl)
    try simp only [Act.put, List.setIfInBounds_toArray, List.set_cons_zero, List.set_cons_succ]
    refine wpAnyZ_take (i := 1) (oi := ⟨some 78, _, _, _, _, _⟩) (v := ?_) (by kernel_rfl) (by kernel_rfl) rfl rfl (by kernel_rfl) (by kernel_rfl) (by kernel_rfl) (fun _ _ _ h => h) (Or.inl ⟨by kernel_rfl, ?_⟩) (by assumption) ?_
    rotate_left
    · (intro w hSw; (try dsimp only at hSw); go_simp; all_goals with_reducible rfl)
    try simp only [Act.put, List.setIfInBounds_toArray, List.set_cons_zero, List.set_cons_succ]
    refine wpAnyZ_take (i := 2) (oi := ⟨some 79, _, _, _, _, _⟩) (v := ?_) (by kernel_rfl) (by kernel_rfl) rfl rfl (by kernel_rfl) (by kernel_rfl) (by kernel_rfl) (fun _ _ _ h => h) (Or.inl ⟨by kernel_rfl, ?_⟩) (by assumption) ?_
    rotate_left
    · (intro w hSw; (try dsimp only at hSw); go_simp; all_goals with_reducible rfl)
    try simp only [Act.put, List.setIfInBounds_toArray, List.set_cons_zero, List.set_cons_succ]
    refine wpAnyZ_take (i := 3) (oi := ⟨some 80, _, _, _, _, _⟩) (v := ?_) (by kernel_rfl) (by kernel_rfl) rfl rfl (by kernel_rfl) (by kernel_rfl) (by kernel_rfl) (fun _ _ _ h => h) (Or.inl ⟨by kernel_rfl, ?_⟩) (by assumption) ?_
    rotate_left
    · (intro w hSw; (try dsimp only at hSw); go_simp; all_goals with_reducible rfl)
    try simp only [Act.put, List.setIfInBounds_toArray, List.set_cons_zero, List.set_cons_succ]
    refine wpAnyZ_take (i := 4) (oi := ⟨some 81, _, _, _, _, _⟩) (v := ?_) (by kernel_rfl) (by kernel_rfl) rfl rfl (by kernel_rfl) (by kernel_rfl) (by kernel_rfl) (fun _ _ _ h => h) (Or.inl ⟨by kernel_rfl, ?_⟩) (by assumption) ?_
    rotate_left
    · (intro w hSw; (try dsimp only at hSw); go_simp; all_goals with_reducible rfl)
    try simp only [Act.put, List.setIfInBounds_toArray, List.set_cons_zero, List.set_cons_succ]
    refine wpAnyZ_take (i := 5) (oi := ⟨some 82, _, _, _, _, _⟩) (v := ?_) (by kernel_rfl) (by kernel_rfl) rfl rfl (by kernel_rfl) (by kernel_rfl) (by kernel_rfl) (fun _ _ _ h => h) (Or.inl ⟨by kernel_rfl, ?_⟩) (by assumption) ?_
    rotate_left
    · (intro w hSw; (try dsimp only at hSw); go_simp; all_goals with_reducible rfl)
    try simp only [Act.put, List.setIfInBounds_toArray, List.set_cons_zero, List.set_cons_succ]
    refine wpAnyZ_take (i := 6) (oi := ⟨some 83, _, _, _, _, _⟩) (v := ?_) (by kernel_rfl) (by kernel_rfl) rfl rfl (by kernel_rfl) (by kernel_rfl) (by kernel_rfl) (fun _ _ _ h => h) (Or.inl ⟨by kernel_rfl, ?_⟩) (by assumption) ?_
    rotate_left
    · (intro w hSw; (try dsimp only at hSw); go_simp; all_goals with_reducible rfl)
    try simp only [Act.put, List.setIfInBounds_toArray, List.set_cons_zero, List.set_cons_succ]
    refine wpAnyZ_call (q := 7) (by kernel_rfl) rfl rfl (fun K hK => ?_)
    go_simp
    refine (plus_any k0 k1 k2 X Y Z L0 L1 L2 _ (by omega) (by omega) (by omega) (by omega) (by omega) (by omega) (by omega) (by omega) (by omega) (by omega) (by omega) (by omega) hI).mono ?_
    rintro e p3w1 ⟨rfl, hbp31⟩
    have zp31 := hbp31.size
    try simp at zp31
    obtain ⟨p31_0_0, p31_0_1, p31_0_2, p31_0_3, p31_0_4, p31_0_5, p31_0_6, p31_0_7, p31_1_0, p31_1_1, p31_1_2, p31_1_3, p31_1_4, p31_1_5, p31_2_0, p31_2_1, p31_2_2, p31_2_3, p31_2_4, p31_2_5, p31_2_6, p31_2_7, p31_3_0, p31_3_1, p31_3_2⟩ : p3w1.cell? ⟨w.heap.size, 0, none⟩ = some (.int .i64 2) ∧ p3w1.cell? ⟨w.heap.size, 1, none⟩ = some (.int .i64 d) ∧ p3w1.cell? ⟨w.heap.size, 2, none⟩ = some (.string fr) ∧ p3w1.cell? ⟨w.heap.size, 3, none⟩ = some (.string ⟨#[]⟩) ∧ p3w1.cell? ⟨w.heap.size, 4, none⟩ = some (.int .i64 0) ∧ p3w1.cell? ⟨w.heap.size, 5, none⟩ = some (.int .i64 0) ∧ p3w1.cell? ⟨w.heap.size, 6, none⟩ = some (.int .i64 am) ∧ p3w1.cell? ⟨w.heap.size, 7, none⟩ = some (.bool pu) ∧ p3w1.cell? ⟨vb, pa, none⟩ = some (.string sa) ∧ p3w1.cell? ⟨vb, pa + 1, none⟩ = some (.int .i64 va) ∧ p3w1.cell? ⟨vb, pa + 2, none⟩ = some (.int .i64 ma) ∧ p3w1.cell? ⟨vb, pa + 3, none⟩ = some (.int .i64 n0) ∧ p3w1.cell? ⟨vb, pa + 4, none⟩ = some (.int .i64 n1) ∧ p3w1.cell? ⟨vb, pa + 5, none⟩ = some (.int .i64 n2) ∧ p3w1.cell? ⟨rb, 0, none⟩ = some (.slice (some ⟨vb, 0, none⟩) n cap) ∧ p3w1.cell? ⟨rb, 1, none⟩ = some (.int .i64 g0) ∧ p3w1.cell? ⟨rb, 2, none⟩ = some (.int .i64 g1) ∧ p3w1.cell? ⟨rb, 3, none⟩ = some (.int .i64 g2) ∧ p3w1.cell? ⟨rb, 4, none⟩ = some (.int .i64 k0) ∧ p3w1.cell? ⟨rb, 5, none⟩ = some (.int .i64 k1) ∧ p3w1.cell? ⟨rb, 6, none⟩ = some (.int .i64 k2) ∧ p3w1.cell? ⟨rb, 7, none⟩ = some (.int .i64 day) ∧ p3w1.cell? ⟨tb, 0, none⟩ = some (.int .i64 X) ∧ p3w1.cell? ⟨tb, 1, none⟩ = some (.int .i64 Y) ∧ p3w1.cell? ⟨tb, 2, none⟩ = some (.int .i64 Z) := by refine ⟨?_, ?_, ?_, ?_, ?_, ?_, ?_, ?_, ?_, ?_, ?_, ?_, ?_, ?_, ?_, ?_, ?_, ?_, ?_, ?_, ?_, ?_, ?_, ?_, ?_⟩ <;> (rw [(bcell hbp31).1 _ _ (by first | (simp; done) | (simp; omega) | omega)]; simp [go_sem, cP, *])
    obtain ⟨p31f1, p31f2, p31f3⟩ : (∀ j, p3w1.frozen? ⟨vb, j, none⟩ = false) ∧ (∀ j, p3w1.frozen? ⟨rb, j, none⟩ = false) ∧ (∀ j, p3w1.frozen? ⟨tb, j, none⟩ = false) := by refine ⟨?_, ?_, ?_⟩ <;> (intro j; rw [(bcell hbp31).2 _ _ (by first | (simp; done) | (simp; omega) | omega)]; simp [go_sem, *])
    obtain ⟨p31o0, p31n0, p31o1, p31n1, p31o2, p31n2, p31o3, p31n3⟩ : w.heap.size < p3w1.heap.size ∧ p3w1.heap.size ≠ w.heap.size ∧ vb < p3w1.heap.size ∧ p3w1.heap.size ≠ vb ∧ rb < p3w1.heap.size ∧ p3w1.heap.size ≠ rb ∧ tb < p3w1.heap.size ∧ p3w1.heap.size ≠ tb := by refine ⟨?_, ?_, ?_, ?_, ?_, ?_, ?_, ?_⟩ <;> omega
    have hBp31 : Below y2.heap.size y2 p3w1 := belA
    clear hbp31 y2_0_0 y2_0_1 y2_0_2 y2_0_3 y2_0_4 y2_0_5 y2_0_6 y2_0_7 y2_1_0 y2_1_1 y2_1_2 y2_1_3 y2_1_4 y2_1_5 y2_2_0 y2_2_1 y2_2_2 y2_2_3 y2_2_4 y2_2_5 y2_2_6 y2_2_7 y2_3_0 y2_3_1 y2_3_2 y2f1 y2f2 y2f3 q1y2 q2y2 q3y2 q4y2
    go_wp2_with fail
    refine hK.out _ _ (by simp [go_sem, cP, *]) (fun hHeld => ?_)
    clear hK K
    try simp only [Act.put, List.setIfInBounds_toArray, List.set_cons_zero, List.set_cons_succ]
    refine wpAnyZ_take (i := 8) (oi := ⟨some 85, _, _, _, _, _⟩) (v := ?_) (by kernel_rfl) (by kernel_rfl) rfl rfl (by kernel_rfl) (by kernel_rfl) (by kernel_rfl) (fun _ _ _ h => h) (Or.inl ⟨by kernel_rfl, ?_⟩) (by assumption) ?_
    rotate_left
    · (intro w hSw; (try dsimp only at hSw); go_simp; all_goals with_reducible rfl)
    try simp only [Act.put, List.setIfInBounds_toArray, List.set_cons_zero, List.set_cons_succ]
    refine wpAnyZ_take (i := 9) (oi := ⟨some 86, _, _, _, _, _⟩) (v := ?_) (by kernel_rfl) (by kernel_rfl) rfl rfl (by kernel_rfl) (by kernel_rfl) (by kernel_rfl) (fun _ _ _ h => h) (Or.inl ⟨by kernel_rfl, ?_⟩) (by assumption) ?_
    rotate_left
    · (intro w hSw; (try dsimp only at hSw); go_simp; all_goals with_reducible rfl)
    try simp only [Act.put, List.setIfInBounds_toArray, List.set_cons_zero, List.set_cons_succ]
    refine wpAnyZ_take (i := 10) (oi := ⟨some 87, _, _, _, _, _⟩) (v := ?_) (by kernel_rfl) (by kernel_rfl) rfl rfl (by kernel_rfl) (by kernel_rfl) (by kernel_rfl) (fun _ _ _ h => h) (Or.inl ⟨by kernel_rfl, ?_⟩) (by assumption) ?_
    rotate_left
    · (intro w hSw; (try dsimp only at hSw); go_simp; all_goals with_reducible rfl)
    try simp only [Act.put, List.setIfInBounds_toArray, List.set_cons_zero, List.set_cons_succ]
    refine wpAnyZ_last (by kernel_rfl) rfl (fun K hK => ?_)
    go_simp
    go_wp2_with fail
    refine hK.out _ _ ?_
    clear hK K
    try simp only [Act.put, List.setIfInBounds_toArray, List.set_cons_zero, List.set_cons_succ]
    obtain ⟨y3_0_0, y3_0_1, y3_0_2, y3_0_3, y3_0_4, y3_0_5, y3_0_6, y3_0_7, y3_1_0, y3_1_1, y3_1_2, y3_1_3, y3_1_4, y3_1_5, y3_2_0, y3_2_1, y3_2_2, y3_2_3, y3_2_4, y3_2_5, y3_2_6, y3_2_7, y3_3_0, y3_3_1, y3_3_2⟩ : (((p3w1.setCell ⟨rb, 4, none⟩ (.int .i64 L0)).setCell ⟨rb, 5, none⟩ (.int .i64 L1)).setCell ⟨rb, 6, none⟩ (.int .i64 L2)).cell? ⟨w.heap.size, 0, none⟩ = some (.int .i64 2) ∧ (((p3w1.setCell ⟨rb, 4, none⟩ (.int .i64 L0)).setCell ⟨rb, 5, none⟩ (.int .i64 L1)).setCell ⟨rb, 6, none⟩ (.int .i64 L2)).cell? ⟨w.heap.size, 1, none⟩ = some (.int .i64 d) ∧ (((p3w1.setCell ⟨rb, 4, none⟩ (.int .i64 L0)).setCell ⟨rb, 5, none⟩ (.int .i64 L1)).setCell ⟨rb, 6, none⟩ (.int .i64 L2)).cell? ⟨w.heap.size, 2, none⟩ = some (.string fr) ∧ (((p3w1.setCell ⟨rb, 4, none⟩ (.int .i64 L0)).setCell ⟨rb, 5, none⟩ (.int .i64 L1)).setCell ⟨rb, 6, none⟩ (.int .i64 L2)).cell? ⟨w.heap.size, 3, none⟩ = some (.string ⟨#[]⟩) ∧ (((p3w1.setCell ⟨rb, 4, none⟩ (.int .i64 L0)).setCell ⟨rb, 5, none⟩ (.int .i64 L1)).setCell ⟨rb, 6, none⟩ (.int .i64 L2)).cell? ⟨w.heap.size, 4, none⟩ = some (.int .i64 0) ∧ (((p3w1.setCell ⟨rb, 4, none⟩ (.int .i64 L0)).setCell ⟨rb, 5, none⟩ (.int .i64 L1)).setCell ⟨rb, 6, none⟩ (.int .i64 L2)).cell? ⟨w.heap.size, 5, none⟩ = some (.int .i64 0) ∧ (((p3w1.setCell ⟨rb, 4, none⟩ (.int .i64 L0)).setCell ⟨rb, 5, none⟩ (.int .i64 L1)).setCell ⟨rb, 6, none⟩ (.int .i64 L2)).cell? ⟨w.heap.size, 6, none⟩ = some (.int .i64 am) ∧ (((p3w1.setCell ⟨rb, 4, none⟩ (.int .i64 L0)).setCell ⟨rb, 5, none⟩ (.int .i64 L1)).setCell ⟨rb, 6, none⟩ (.int .i64 L2)).cell? ⟨w.heap.size, 7, none⟩ = some (.bool pu) ∧ (((p3w1.setCell ⟨rb, 4, none⟩ (.int .i64 L0)).setCell ⟨rb, 5, none⟩ (.int .i64 L1)).setCell ⟨rb, 6, none⟩ (.int .i64 L2)).cell? ⟨vb, pa, none⟩ = some (.string sa) ∧ (((p3w1.setCell ⟨rb, 4, none⟩ (.int .i64 L0)).setCell ⟨rb, 5, none⟩ (.int .i64 L1)).setCell ⟨rb, 6, none⟩ (.int .i64 L2)).cell? ⟨vb, pa + 1, none⟩ = some (.int .i64 va) ∧ (((p3w1.setCell ⟨rb, 4, none⟩ (.int .i64 L0)).setCell ⟨rb, 5, none⟩ (.int .i64 L1)).setCell ⟨rb, 6, none⟩ (.int .i64 L2)).cell? ⟨vb, pa + 2, none⟩ = some (.int .i64 ma) ∧ (((p3w1.setCell ⟨rb, 4, none⟩ (.int .i64 L0)).setCell ⟨rb, 5, none⟩ (.int .i64 L1)).setCell ⟨rb, 6, none⟩ (.int .i64 L2)).cell? ⟨vb, pa + 3, none⟩ = some (.int .i64 n0) ∧ (((p3w1.setCell ⟨rb, 4, none⟩ (.int .i64 L0)).setCell ⟨rb, 5, none⟩ (.int .i64 L1)).setCell ⟨rb, 6, none⟩ (.int .i64 L2)).cell? ⟨vb, pa + 4, none⟩ = some (.int .i64 n1) ∧ (((p3w1.setCell ⟨rb, 4, none⟩ (.int .i64 L0)).setCell ⟨rb, 5, none⟩ (.int .i64 L1)).setCell ⟨rb, 6, none⟩ (.int .i64 L2)).cell? ⟨vb, pa + 5, none⟩ = some (.int .i64 n2) ∧ (((p3w1.setCell ⟨rb, 4, none⟩ (.int .i64 L0)).setCell ⟨rb, 5, none⟩ (.int .i64 L1)).setCell ⟨rb, 6, none⟩ (.int .i64 L2)).cell? ⟨rb, 0, none⟩ = some (.slice (some ⟨vb, 0, none⟩) n cap) ∧ (((p3w1.setCell ⟨rb, 4, none⟩ (.int .i64 L0)).setCell ⟨rb, 5, none⟩ (.int .i64 L1)).setCell ⟨rb, 6, none⟩ (.int .i64 L2)).cell? ⟨rb, 1, none⟩ = some (.int .i64 g0) ∧ (((p3w1.setCell ⟨rb, 4, none⟩ (.int .i64 L0)).setCell ⟨rb, 5, none⟩ (.int .i64 L1)).setCell ⟨rb, 6, none⟩ (.int .i64 L2)).cell? ⟨rb, 2, none⟩ = some (.int .i64 g1) ∧ (((p3w1.setCell ⟨rb, 4, none⟩ (.int .i64 L0)).setCell ⟨rb, 5, none⟩ (.int .i64 L1)).setCell ⟨rb, 6, none⟩ (.int .i64 L2)).cell? ⟨rb, 3, none⟩ = some (.int .i64 g2) ∧ (((p3w1.setCell ⟨rb, 4, none⟩ (.int .i64 L0)).setCell ⟨rb, 5, none⟩ (.int .i64 L1)).setCell ⟨rb, 6, none⟩ (.int .i64 L2)).cell? ⟨rb, 4, none⟩ = some (.int .i64 L0) ∧ (((p3w1.setCell ⟨rb, 4, none⟩ (.int .i64 L0)).setCell ⟨rb, 5, none⟩ (.int .i64 L1)).setCell ⟨rb, 6, none⟩ (.int .i64 L2)).cell? ⟨rb, 5, none⟩ = some (.int .i64 L1) ∧ (((p3w1.setCell ⟨rb, 4, none⟩ (.int .i64 L0)).setCell ⟨rb, 5, none⟩ (.int .i64 L1)).setCell ⟨rb, 6, none⟩ (.int .i64 L2)).cell? ⟨rb, 6, none⟩ = some (.int .i64 L2) ∧ (((p3w1.setCell ⟨rb, 4, none⟩ (.int .i64 L0)).setCell ⟨rb, 5, none⟩ (.int .i64 L1)).setCell ⟨rb, 6, none⟩ (.int .i64 L2)).cell? ⟨rb, 7, none⟩ = some (.int .i64 day) ∧ (((p3w1.setCell ⟨rb, 4, none⟩ (.int .i64 L0)).setCell ⟨rb, 5, none⟩ (.int .i64 L1)).setCell ⟨rb, 6, none⟩ (.int .i64 L2)).cell? ⟨tb, 0, none⟩ = some (.int .i64 X) ∧ (((p3w1.setCell ⟨rb, 4, none⟩ (.int .i64 L0)).setCell ⟨rb, 5, none⟩ (.int .i64 L1)).setCell ⟨rb, 6, none⟩ (.int .i64 L2)).cell? ⟨tb, 1, none⟩ = some (.int .i64 Y) ∧ (((p3w1.setCell ⟨rb, 4, none⟩ (.int .i64 L0)).setCell ⟨rb, 5, none⟩ (.int .i64 L1)).setCell ⟨rb, 6, none⟩ (.int .i64 L2)).cell? ⟨tb, 2, none⟩ = some (.int .i64 Z) := by refine ⟨?_, ?_, ?_, ?_, ?_, ?_, ?_, ?_, ?_, ?_, ?_, ?_, ?_, ?_, ?_, ?_, ?_, ?_, ?_, ?_, ?_, ?_, ?_, ?_, ?_⟩ <;> (simp [go_sem, cP, *])
    obtain ⟨y3f1, y3f2, y3f3⟩ : (∀ j, (((p3w1.setCell ⟨rb, 4, none⟩ (.int .i64 L0)).setCell ⟨rb, 5, none⟩ (.int .i64 L1)).setCell ⟨rb, 6, none⟩ (.int .i64 L2)).frozen? ⟨vb, j, none⟩ = false) ∧ (∀ j, (((p3w1.setCell ⟨rb, 4, none⟩ (.int .i64 L0)).setCell ⟨rb, 5, none⟩ (.int .i64 L1)).setCell ⟨rb, 6, none⟩ (.int .i64 L2)).frozen? ⟨rb, j, none⟩ = false) ∧ (∀ j, (((p3w1.setCell ⟨rb, 4, none⟩ (.int .i64 L0)).setCell ⟨rb, 5, none⟩ (.int .i64 L1)).setCell ⟨rb, 6, none⟩ (.int .i64 L2)).frozen? ⟨tb, j, none⟩ = false) := by refine ⟨?_, ?_, ?_⟩ <;> (intro j; simp [go_sem, *])
    have hzy3 : (((p3w1.setCell ⟨rb, 4, none⟩ (.int .i64 L0)).setCell ⟨rb, 5, none⟩ (.int .i64 L1)).setCell ⟨rb, 6, none⟩ (.int .i64 L2)).heap.size = p3w1.heap.size := by simp
    have hDy3 : BelowD rb vb w.heap.size w (((p3w1.setCell ⟨rb, 4, none⟩ (.int .i64 L0)).setCell ⟨rb, 5, none⟩ (.int .i64 L1)).setCell ⟨rb, 6, none⟩ (.int .i64 L2)) := (((hDy2.trans (BelowD.of hBp31 (by omega))).set rb (4) _ (Or.inl rfl)).set rb (5) _ (Or.inl rfl)).set rb (6) _ (Or.inl rfl)
    have hVy3 : ∀ q, q ≠ pa + 3 → q ≠ pa + 4 → q ≠ pa + 5 → (((p3w1.setCell ⟨rb, 4, none⟩ (.int .i64 L0)).setCell ⟨rb, 5, none⟩ (.int .i64 L1)).setCell ⟨rb, 6, none⟩ (.int .i64 L2)).cell? ⟨vb, q, none⟩ = w.cell? ⟨vb, q, none⟩ := fun q u0 u1 u2 => by rw [sblk (by first | assumption | omega), sblk (by first | assumption | omega), sblk (by first | assumption | omega), hBp31.cell (p := ⟨vb, q, none⟩) (by show vb < _; omega)]; exact hVy2 q u0 u1 u2
    have zsy3 : y2.heap.size ≤ (((p3w1.setCell ⟨rb, 4, none⟩ (.int .i64 L0)).setCell ⟨rb, 5, none⟩ (.int .i64 L1)).setCell ⟨rb, 6, none⟩ (.int .i64 L2)).heap.size := by rw [hzy3]; exact hBp31.size
    clear p31_0_0 p31_0_1 p31_0_2 p31_0_3 p31_0_4 p31_0_5 p31_0_6 p31_0_7 p31_1_0 p31_1_1 p31_1_2 p31_1_3 p31_1_4 p31_1_5 p31_2_0 p31_2_1 p31_2_2 p31_2_3 p31_2_4 p31_2_5 p31_2_6 p31_2_7 p31_3_0 p31_3_1 p31_3_2 p31f1 p31f2 p31f3 p31o0 p31n0 p31o1 p31n1 p31o2 p31n2 p31o3 p31n3 hBp31
    generalize hWy3 : ((p3w1.setCell ⟨rb, 4, none⟩ (.int .i64 L0)).setCell ⟨rb, 5, none⟩ (.int .i64 L1)).setCell ⟨rb, 6, none⟩ (.int .i64 L2) = y3 at *
    clear hWy3
    have q1y3 : w.heap.size < y3.heap.size := by omega
    have q2y3 : vb < y3.heap.size := by omega
    have q3y3 : rb < y3.heap.size := by omega
    have q4y3 : tb < y3.heap.size := by omega
    go_wp2
    go_ret
    refine ⟨ret_int hz.symm, Or.inr ⟨hz, (by simp [go_sem, *]), (by simp [go_sem, *]), (by simp [go_sem, *]), (by simp [go_sem, *]), (by simp [go_sem, *]), (by simp [go_sem, *]), (by simp [go_sem, *]), (by simp [go_sem, *]), (by simp [go_sem, *]), (by simp [go_sem, *]), (by simp [go_sem, *]), fun q u0 u1 u2 => (sblk (by first | assumption | omega)).trans (hVy3 q u0 u1 u2), (fun j => by simp [go_sem, *]), (fun j => by simp [go_sem, *]), hDy3.set rb 7 _ (Or.inl rfl)⟩⟩
  · have hz2 : (E != 0) = true := by simpa using hz
    go_wp2
    go_ret
    exact ⟨rfl, Or.inl ⟨hz, belA⟩⟩
end Go.Proofs.Ytjkhjjmmkdfjmaa
