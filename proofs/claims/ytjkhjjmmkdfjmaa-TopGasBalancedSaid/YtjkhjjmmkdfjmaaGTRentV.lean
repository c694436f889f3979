import Derived.Test.YtjkhjjmmkdfjmaaGTRefCt
import Derived.Test.YtjkhjjmmkdfjmaaGTAdd0
import Derived.Test.YtjkhjjmmkdfjmaaGTRm
import Derived.Outline
namespace Go.Proofs.Ytjkhjjmmkdfjmaa
open Go.ChangeShapes Go.WideShapes Go.ChangeAt Go.RowKit
set_option linter.unusedVariables false
set_option linter.unusedSimpArgs false
attribute [local go_sem ↓] Go.wp_at_zero Go.wp_at_succ
set_option maxHeartbeats 8000000 in
set_option maxRecDepth 100000 in
theorem rent_V (sb ib v of n ic cap qa qb : Nat) (L : List Ve) (d o h am g0 g1 g2 k0 k1 k2 day va a0 a1 a2 SA vo mo b0 b1 b2 SB E X Y Z n0 n1 n2 L0 L1 L2 : Int) (fr tz : ByteArray) (pu : Bool) (w : World) (hn : Hid (n = L.length)) (hl : n ≤ 1000000) (hL : Hid (SlRows veV 3 w (some ⟨v, of, none⟩) L)) (r0 : w.cell? ⟨sb, 0, none⟩ = some (.slice (some ⟨ib, 0, none⟩) n ic)) (r1 : w.cell? ⟨sb, 1, none⟩ = some (.int .i64 g0)) (r2 : w.cell? ⟨sb, 2, none⟩ = some (.int .i64 g1)) (r3 : w.cell? ⟨sb, 3, none⟩ = some (.int .i64 g2)) (r4 : w.cell? ⟨sb, 4, none⟩ = some (.int .i64 k0)) (r5 : w.cell? ⟨sb, 5, none⟩ = some (.int .i64 k1)) (r6 : w.cell? ⟨sb, 6, none⟩ = some (.int .i64 k2)) (r7 : w.cell? ⟨sb, 7, none⟩ = some (.int .i64 day)) (xa0 : w.cell? ⟨ib, qa * 3, none⟩ = some (.int .i64 a0)) (xa1 : w.cell? ⟨ib, qa * 3 + 1, none⟩ = some (.int .i64 a1)) (xa2 : w.cell? ⟨ib, qa * 3 + 2, none⟩ = some (.int .i64 a2))   (vf : ∀ j, w.frozen? ⟨ib, j, none⟩ = false) (rf : ∀ j, w.frozen? ⟨sb, j, none⟩ = false) (li : ib < w.heap.size) (ls : sb < w.heap.size) (lv : v < w.heap.size) (nsi : sb ≠ ib) (nsv : sb ≠ v) (niv : ib ≠ v) (nic : n ≤ ic) (hqa : qa < n) (hF : Hid (fndV fr L = qa)) (hT : Hid (fndV ⟨#[]⟩ L = -1)) (hG : Hid (gasE 0 0 = 0)) (am1 : 1 ≤ am) (am2 : am ≤ 1000000000) (hcA : Hid (conB a0 a1 a2 = true)) (hSA : Hid (a0 + a1 + a2 = SA)) (u1 : 1 ≤ va) (u2 : va ≤ 1000000000)  (hE : Hid (pos2 d day am SA = E)) (hX : Hid (shareR a0 a1 a2 am = (X, Y, Z))) (k0n : 0 ≤ k0) (k0m : k0 ≤ 900000000000) (k1n : 0 ≤ k1) (k1m : k1 ≤ 900000000000) (k2n : 0 ≤ k2) (k2m : k2 ≤ 900000000000) (hN : Hid (a0 - X = n0 ∧ a1 - Y = n1 ∧ a2 - Z = n2)) (hI : Hid (k0 + X = L0 ∧ k1 + Y = L1 ∧ k2 + Z = L2)) : Calls Try.prog 72 #[.slice (some ⟨v, of, none⟩) n cap, .pointer (some ⟨sb, 0, none⟩), .agg #[.int .i64 2, .int .i64 d, .string fr, .string ⟨#[]⟩, .int .i64 0, .int .i64 0, .int .i64 am, .bool pu]] w fun e w' => e = .returned (.int .i64 E) ∧ ((¬ E = 0 ∧ Below w.heap.size w w') ∨ (E = 0 ∧ w'.cell? ⟨sb, 0, none⟩ = some (.slice (some ⟨ib, 0, none⟩) n ic) ∧ w'.cell? ⟨sb, 1, none⟩ = some (.int .i64 g0) ∧ w'.cell? ⟨sb, 2, none⟩ = some (.int .i64 g1) ∧ w'.cell? ⟨sb, 3, none⟩ = some (.int .i64 g2) ∧ w'.cell? ⟨sb, 4, none⟩ = some (.int .i64 L0) ∧ w'.cell? ⟨sb, 5, none⟩ = some (.int .i64 L1) ∧ w'.cell? ⟨sb, 6, none⟩ = some (.int .i64 L2) ∧ w'.cell? ⟨sb, 7, none⟩ = some (.int .i64 d) ∧ w'.cell? ⟨ib, qa * 3, none⟩ = some (.int .i64 n0) ∧ w'.cell? ⟨ib, qa * 3 + 1, none⟩ = some (.int .i64 n1) ∧ w'.cell? ⟨ib, qa * 3 + 2, none⟩ = some (.int .i64 n2) ∧ (∀ q, q ≠ qa * 3 → q ≠ qa * 3 + 1 → q ≠ qa * 3 + 2 → w'.cell? ⟨ib, q, none⟩ = w.cell? ⟨ib, q, none⟩) ∧ (∀ j, w'.frozen? ⟨ib, j, none⟩ = false) ∧ (∀ j, w'.frozen? ⟨sb, j, none⟩ = false) ∧ BelowD sb ib w.heap.size w w')) := by
  have o1 : ib ≠ w.heap.size := by omega
  have o2 : sb ≠ w.heap.size := by omega
  have o3 : ib < w.heap.size + 1 := by omega
  have o4 : sb < w.heap.size + 1 := by omega
  have o5 : v ≠ w.heap.size := by omega
  have o6 : v < w.heap.size + 1 := by omega
  have nis : ib ≠ sb := fun h => nsi h.symm
  have nvs : v ≠ sb := fun h => nsv h.symm
  have nvi : v ≠ ib := fun h => niv h.symm
  have ja1 : (0 : Int) ≤ (qa : Int) := by omega
  have ja2 : (qa : Int) < (n : Int) := by omega
  have ja3 : ¬ (qa : Int) < 0 := by omega
  obtain ⟨ca0, ca1, ca2, ca3⟩ := conB_iff.1 hcA.out
  have sa0 : 0 ≤ SA ∧ SA ≤ 1000000000 := by have := hSA.out; omega
  obtain ⟨sa0, sa1⟩ := sa0
  go_enter Try.func72, Try.ntmps72
  go_upto_region 1 with (fail)
  refine wp_region_held_drew (S := (fun w' => w'.cell? ⟨w.heap.size, 0, none⟩ = some (.int .i64 2) ∧ w'.cell? ⟨w.heap.size, 1, none⟩ = some (.int .i64 d) ∧ w'.cell? ⟨w.heap.size, 2, none⟩ = some (.string fr) ∧ w'.cell? ⟨w.heap.size, 3, none⟩ = some (.string ⟨#[]⟩) ∧ w'.cell? ⟨w.heap.size, 4, none⟩ = some (.int .i64 0) ∧ w'.cell? ⟨w.heap.size, 5, none⟩ = some (.int .i64 0) ∧ w'.cell? ⟨w.heap.size, 6, none⟩ = some (.int .i64 am) ∧ w'.cell? ⟨w.heap.size, 7, none⟩ = some (.bool pu))) (by kernel_rfl) (by simp [go_sem, cP, *]) (fun hHeld => ?_)
  refine tkA 0 11 rfl ?_
  refine tkA 1 12 rfl ?_
  refine tkA 2 13 rfl ?_
  refine tkA 4 15 rfl ?_
  refine tkA 5 16 rfl ?_
  refine tkA 6 17 rfl ?_
  refine rdA 3 rfl (fun K hK => ?_)
  go_simp
  refine (refFind_b L (some ⟨v, of, none⟩) cap n fr qa _ hn hl (hL.out.below (by first | exact ((Below.refl _ _).alloc (Nat.le_refl _) _) | exact (((Below.refl _ _).alloc (Nat.le_refl _) _)).drew)) hF).mono ?_
  rintro e xw1 ⟨rfl, hbx1⟩
  have zx1 := hbx1.size
  try simp at zx1
  obtain ⟨x1A0, x1A1, x1A2, x1A3, x1A4, x1A5, x1A6, x1A7, x1B0, x1B1, x1B2, x1C0, x1C1, x1C2, x1C3, x1C4, x1C5, x1C6, x1C7⟩ : xw1.cell? ⟨w.heap.size, 0, none⟩ = some (.int .i64 2) ∧ xw1.cell? ⟨w.heap.size, 1, none⟩ = some (.int .i64 d) ∧ xw1.cell? ⟨w.heap.size, 2, none⟩ = some (.string fr) ∧ xw1.cell? ⟨w.heap.size, 3, none⟩ = some (.string ⟨#[]⟩) ∧ xw1.cell? ⟨w.heap.size, 4, none⟩ = some (.int .i64 0) ∧ xw1.cell? ⟨w.heap.size, 5, none⟩ = some (.int .i64 0) ∧ xw1.cell? ⟨w.heap.size, 6, none⟩ = some (.int .i64 am) ∧ xw1.cell? ⟨w.heap.size, 7, none⟩ = some (.bool pu) ∧ xw1.cell? ⟨ib, qa * 3, none⟩ = some (.int .i64 a0) ∧ xw1.cell? ⟨ib, qa * 3 + 1, none⟩ = some (.int .i64 a1) ∧ xw1.cell? ⟨ib, qa * 3 + 2, none⟩ = some (.int .i64 a2) ∧ xw1.cell? ⟨sb, 0, none⟩ = some (.slice (some ⟨ib, 0, none⟩) n ic) ∧ xw1.cell? ⟨sb, 1, none⟩ = some (.int .i64 g0) ∧ xw1.cell? ⟨sb, 2, none⟩ = some (.int .i64 g1) ∧ xw1.cell? ⟨sb, 3, none⟩ = some (.int .i64 g2) ∧ xw1.cell? ⟨sb, 4, none⟩ = some (.int .i64 k0) ∧ xw1.cell? ⟨sb, 5, none⟩ = some (.int .i64 k1) ∧ xw1.cell? ⟨sb, 6, none⟩ = some (.int .i64 k2) ∧ xw1.cell? ⟨sb, 7, none⟩ = some (.int .i64 day) := by refine ⟨?_, ?_, ?_, ?_, ?_, ?_, ?_, ?_, ?_, ?_, ?_, ?_, ?_, ?_, ?_, ?_, ?_, ?_, ?_⟩ <;> (rw [bc1 hbx1]; simp [go_sem, cP, *])
  obtain ⟨x1f1, x1f2⟩ : (∀ j, xw1.frozen? ⟨ib, j, none⟩ = false) ∧ (∀ j, xw1.frozen? ⟨sb, j, none⟩ = false) := by refine ⟨?_, ?_⟩ <;> (intro j; rw [bc2 hbx1]; simp [go_sem, *])
  obtain ⟨x1o0, x1n0, x1t0_0, x1o1, x1n1, x1t1_0, x1o2, x1n2, x1t2_0⟩ : w.heap.size < xw1.heap.size ∧ xw1.heap.size ≠ w.heap.size ∧ w.heap.size < xw1.heap.size + 1 ∧ ib < xw1.heap.size ∧ xw1.heap.size ≠ ib ∧ ib < xw1.heap.size + 1 ∧ sb < xw1.heap.size ∧ xw1.heap.size ≠ sb ∧ sb < xw1.heap.size + 1 := by refine ⟨?_, ?_, ?_, ?_, ?_, ?_, ?_, ?_, ?_⟩ <;> omega
  have hBx1 : Below w.heap.size w xw1 := belA
  clear hbx1 
  go_wp2_with fail
  refine hK.out _ _ (by simp [go_sem, cP, *]) (fun hHeld => ?_)
  clear hK K
  try simp only [Act.put, sA, sB, sC]
  refine rdA 7 rfl (fun K hK => ?_)
  go_simp
  refine (refFind_b L (some ⟨v, of, none⟩) cap n ⟨#[]⟩ (-1) _ hn hl (hL.out.below (by first | exact hBx1 | exact (hBx1).drew)) hT).mono ?_
  rintro e xw2 ⟨rfl, hbx2⟩
  have zx2 := hbx2.size
  try simp at zx2
  obtain ⟨x2A0, x2A1, x2A2, x2A3, x2A4, x2A5, x2A6, x2A7, x2B0, x2B1, x2B2, x2C0, x2C1, x2C2, x2C3, x2C4, x2C5, x2C6, x2C7⟩ : xw2.cell? ⟨w.heap.size, 0, none⟩ = some (.int .i64 2) ∧ xw2.cell? ⟨w.heap.size, 1, none⟩ = some (.int .i64 d) ∧ xw2.cell? ⟨w.heap.size, 2, none⟩ = some (.string fr) ∧ xw2.cell? ⟨w.heap.size, 3, none⟩ = some (.string ⟨#[]⟩) ∧ xw2.cell? ⟨w.heap.size, 4, none⟩ = some (.int .i64 0) ∧ xw2.cell? ⟨w.heap.size, 5, none⟩ = some (.int .i64 0) ∧ xw2.cell? ⟨w.heap.size, 6, none⟩ = some (.int .i64 am) ∧ xw2.cell? ⟨w.heap.size, 7, none⟩ = some (.bool pu) ∧ xw2.cell? ⟨ib, qa * 3, none⟩ = some (.int .i64 a0) ∧ xw2.cell? ⟨ib, qa * 3 + 1, none⟩ = some (.int .i64 a1) ∧ xw2.cell? ⟨ib, qa * 3 + 2, none⟩ = some (.int .i64 a2) ∧ xw2.cell? ⟨sb, 0, none⟩ = some (.slice (some ⟨ib, 0, none⟩) n ic) ∧ xw2.cell? ⟨sb, 1, none⟩ = some (.int .i64 g0) ∧ xw2.cell? ⟨sb, 2, none⟩ = some (.int .i64 g1) ∧ xw2.cell? ⟨sb, 3, none⟩ = some (.int .i64 g2) ∧ xw2.cell? ⟨sb, 4, none⟩ = some (.int .i64 k0) ∧ xw2.cell? ⟨sb, 5, none⟩ = some (.int .i64 k1) ∧ xw2.cell? ⟨sb, 6, none⟩ = some (.int .i64 k2) ∧ xw2.cell? ⟨sb, 7, none⟩ = some (.int .i64 day) := by refine ⟨?_, ?_, ?_, ?_, ?_, ?_, ?_, ?_, ?_, ?_, ?_, ?_, ?_, ?_, ?_, ?_, ?_, ?_, ?_⟩ <;> (rw [bc1 hbx2]; simp [go_sem, cP, *])
  obtain ⟨x2f1, x2f2⟩ : (∀ j, xw2.frozen? ⟨ib, j, none⟩ = false) ∧ (∀ j, xw2.frozen? ⟨sb, j, none⟩ = false) := by refine ⟨?_, ?_⟩ <;> (intro j; rw [bc2 hbx2]; simp [go_sem, *])
  obtain ⟨x2o0, x2n0, x2t0_0, x2o1, x2n1, x2t1_0, x2o2, x2n2, x2t2_0⟩ : w.heap.size < xw2.heap.size ∧ xw2.heap.size ≠ w.heap.size ∧ w.heap.size < xw2.heap.size + 1 ∧ ib < xw2.heap.size ∧ xw2.heap.size ≠ ib ∧ ib < xw2.heap.size + 1 ∧ sb < xw2.heap.size ∧ xw2.heap.size ≠ sb ∧ sb < xw2.heap.size + 1 := by refine ⟨?_, ?_, ?_, ?_, ?_, ?_, ?_, ?_, ?_⟩ <;> omega
  have hBx2 : Below w.heap.size w xw2 := belA
  clear hbx2 x1A0 x1A1 x1A2 x1A3 x1A4 x1A5 x1A6 x1A7 x1B0 x1B1 x1B2 x1C0 x1C1 x1C2 x1C3 x1C4 x1C5 x1C6 x1C7 x1f1 x1f2 x1o0 x1n0 x1t0_0 x1o1 x1n1 x1t1_0 x1o2 x1n2 x1t2_0 hBx1
  go_wp2_with fail
  refine hK.out _ _ (by simp [go_sem, cP, *]) (fun hHeld => ?_)
  clear hK K
  try simp only [Act.put, sA, sB, sC]
  refine tkA 8 7 rfl ?_
  refine tkA 9 8 rfl ?_
  refine wpAnyH_done (by kernel_rfl) ?_ _
  go_upto_region 4 with (fail)
  refine wp_region_held_drew (S := (fun w' => w'.cell? ⟨w.heap.size, 0, none⟩ = some (.int .i64 2) ∧ w'.cell? ⟨w.heap.size, 1, none⟩ = some (.int .i64 d) ∧ w'.cell? ⟨w.heap.size, 2, none⟩ = some (.string fr) ∧ w'.cell? ⟨w.heap.size, 3, none⟩ = some (.string ⟨#[]⟩) ∧ w'.cell? ⟨w.heap.size, 4, none⟩ = some (.int .i64 0) ∧ w'.cell? ⟨w.heap.size, 5, none⟩ = some (.int .i64 0) ∧ w'.cell? ⟨w.heap.size, 6, none⟩ = some (.int .i64 am) ∧ w'.cell? ⟨w.heap.size, 7, none⟩ = some (.bool pu) ∧ w'.cell? ⟨sb, 7, none⟩ = some (.int .i64 day))) (by kernel_rfl) (by simp [go_sem, cP, *]) (fun hHeld => ?_)
  refine tkA 0 35 rfl ?_
  refine tkA 1 36 rfl ?_
  refine tkA 2 37 rfl ?_
  refine tkA 3 38 rfl ?_
  refine tkA 4 39 rfl ?_
  refine tkA 5 40 rfl ?_
  refine tkA 6 41 rfl ?_
  refine wpAnyH_done (by kernel_rfl) ?_ _
  by_cases hd : d < day
  · have hr : Hid ((9 : Int) = E) := Lib.hid (by rw [← hE.out]; unfold pos2; rw [if_pos hd])
    go_wp2
    go_ret
    exact ⟨ret_int hr.out, Or.inl ⟨by have := hr.out; omega, belA⟩⟩
  · skip
    go_wp2_with fail
    refine (refPure_any 0 0 am 0 0 am _ hG am1 am2 (Lib.hid (by simp)) (Lib.hid (by simp)) (Lib.hid (by omega))).mono ?_
    rintro e xw3 ⟨rfl, hbx3⟩
    have zx3 := hbx3.size
    try simp at zx3
    obtain ⟨x3A0, x3A1, x3A2, x3A3, x3A4, x3A5, x3A6, x3A7, x3B0, x3B1, x3B2, x3C0, x3C1, x3C2, x3C3, x3C4, x3C5, x3C6, x3C7⟩ : xw3.cell? ⟨w.heap.size, 0, none⟩ = some (.int .i64 2) ∧ xw3.cell? ⟨w.heap.size, 1, none⟩ = some (.int .i64 d) ∧ xw3.cell? ⟨w.heap.size, 2, none⟩ = some (.string fr) ∧ xw3.cell? ⟨w.heap.size, 3, none⟩ = some (.string ⟨#[]⟩) ∧ xw3.cell? ⟨w.heap.size, 4, none⟩ = some (.int .i64 0) ∧ xw3.cell? ⟨w.heap.size, 5, none⟩ = some (.int .i64 0) ∧ xw3.cell? ⟨w.heap.size, 6, none⟩ = some (.int .i64 am) ∧ xw3.cell? ⟨w.heap.size, 7, none⟩ = some (.bool pu) ∧ xw3.cell? ⟨ib, qa * 3, none⟩ = some (.int .i64 a0) ∧ xw3.cell? ⟨ib, qa * 3 + 1, none⟩ = some (.int .i64 a1) ∧ xw3.cell? ⟨ib, qa * 3 + 2, none⟩ = some (.int .i64 a2) ∧ xw3.cell? ⟨sb, 0, none⟩ = some (.slice (some ⟨ib, 0, none⟩) n ic) ∧ xw3.cell? ⟨sb, 1, none⟩ = some (.int .i64 g0) ∧ xw3.cell? ⟨sb, 2, none⟩ = some (.int .i64 g1) ∧ xw3.cell? ⟨sb, 3, none⟩ = some (.int .i64 g2) ∧ xw3.cell? ⟨sb, 4, none⟩ = some (.int .i64 k0) ∧ xw3.cell? ⟨sb, 5, none⟩ = some (.int .i64 k1) ∧ xw3.cell? ⟨sb, 6, none⟩ = some (.int .i64 k2) ∧ xw3.cell? ⟨sb, 7, none⟩ = some (.int .i64 day) := by refine ⟨?_, ?_, ?_, ?_, ?_, ?_, ?_, ?_, ?_, ?_, ?_, ?_, ?_, ?_, ?_, ?_, ?_, ?_, ?_⟩ <;> (rw [bc1 hbx3]; simp [go_sem, cP, *])
    obtain ⟨x3f1, x3f2⟩ : (∀ j, xw3.frozen? ⟨ib, j, none⟩ = false) ∧ (∀ j, xw3.frozen? ⟨sb, j, none⟩ = false) := by refine ⟨?_, ?_⟩ <;> (intro j; rw [bc2 hbx3]; simp [go_sem, *])
    obtain ⟨x3o0, x3n0, x3t0_0, x3o1, x3n1, x3t1_0, x3o2, x3n2, x3t2_0⟩ : w.heap.size < xw3.heap.size ∧ xw3.heap.size ≠ w.heap.size ∧ w.heap.size < xw3.heap.size + 1 ∧ ib < xw3.heap.size ∧ xw3.heap.size ≠ ib ∧ ib < xw3.heap.size + 1 ∧ sb < xw3.heap.size ∧ xw3.heap.size ≠ sb ∧ sb < xw3.heap.size + 1 := by refine ⟨?_, ?_, ?_, ?_, ?_, ?_, ?_, ?_, ?_⟩ <;> omega
    have hBx3 : Below w.heap.size w xw3 := belA
    clear hbx3 x2A0 x2A1 x2A2 x2A3 x2A4 x2A5 x2A6 x2A7 x2B0 x2B1 x2B2 x2C0 x2C1 x2C2 x2C3 x2C4 x2C5 x2C6 x2C7 x2f1 x2f2 x2o0 x2n0 x2t0_0 x2o1 x2n1 x2t1_0 x2o2 x2n2 x2t2_0 hBx2
    go_upto_region 8 with (fail)
    obtain ⟨y0A0, y0A1, y0A2, y0A3, y0A4, y0A5, y0A6, y0A7, y0B0, y0B1, y0B2, y0C0, y0C1, y0C2, y0C3, y0C4, y0C5, y0C6, y0C7, y0D0, y0D1, y0D2⟩ : (xw3.alloc (.cells #[.int .i64 0, .int .i64 0, .int .i64 am] 49)).cell? ⟨w.heap.size, 0, none⟩ = some (.int .i64 2) ∧ (xw3.alloc (.cells #[.int .i64 0, .int .i64 0, .int .i64 am] 49)).cell? ⟨w.heap.size, 1, none⟩ = some (.int .i64 d) ∧ (xw3.alloc (.cells #[.int .i64 0, .int .i64 0, .int .i64 am] 49)).cell? ⟨w.heap.size, 2, none⟩ = some (.string fr) ∧ (xw3.alloc (.cells #[.int .i64 0, .int .i64 0, .int .i64 am] 49)).cell? ⟨w.heap.size, 3, none⟩ = some (.string ⟨#[]⟩) ∧ (xw3.alloc (.cells #[.int .i64 0, .int .i64 0, .int .i64 am] 49)).cell? ⟨w.heap.size, 4, none⟩ = some (.int .i64 0) ∧ (xw3.alloc (.cells #[.int .i64 0, .int .i64 0, .int .i64 am] 49)).cell? ⟨w.heap.size, 5, none⟩ = some (.int .i64 0) ∧ (xw3.alloc (.cells #[.int .i64 0, .int .i64 0, .int .i64 am] 49)).cell? ⟨w.heap.size, 6, none⟩ = some (.int .i64 am) ∧ (xw3.alloc (.cells #[.int .i64 0, .int .i64 0, .int .i64 am] 49)).cell? ⟨w.heap.size, 7, none⟩ = some (.bool pu) ∧ (xw3.alloc (.cells #[.int .i64 0, .int .i64 0, .int .i64 am] 49)).cell? ⟨ib, qa * 3, none⟩ = some (.int .i64 a0) ∧ (xw3.alloc (.cells #[.int .i64 0, .int .i64 0, .int .i64 am] 49)).cell? ⟨ib, qa * 3 + 1, none⟩ = some (.int .i64 a1) ∧ (xw3.alloc (.cells #[.int .i64 0, .int .i64 0, .int .i64 am] 49)).cell? ⟨ib, qa * 3 + 2, none⟩ = some (.int .i64 a2) ∧ (xw3.alloc (.cells #[.int .i64 0, .int .i64 0, .int .i64 am] 49)).cell? ⟨sb, 0, none⟩ = some (.slice (some ⟨ib, 0, none⟩) n ic) ∧ (xw3.alloc (.cells #[.int .i64 0, .int .i64 0, .int .i64 am] 49)).cell? ⟨sb, 1, none⟩ = some (.int .i64 g0) ∧ (xw3.alloc (.cells #[.int .i64 0, .int .i64 0, .int .i64 am] 49)).cell? ⟨sb, 2, none⟩ = some (.int .i64 g1) ∧ (xw3.alloc (.cells #[.int .i64 0, .int .i64 0, .int .i64 am] 49)).cell? ⟨sb, 3, none⟩ = some (.int .i64 g2) ∧ (xw3.alloc (.cells #[.int .i64 0, .int .i64 0, .int .i64 am] 49)).cell? ⟨sb, 4, none⟩ = some (.int .i64 k0) ∧ (xw3.alloc (.cells #[.int .i64 0, .int .i64 0, .int .i64 am] 49)).cell? ⟨sb, 5, none⟩ = some (.int .i64 k1) ∧ (xw3.alloc (.cells #[.int .i64 0, .int .i64 0, .int .i64 am] 49)).cell? ⟨sb, 6, none⟩ = some (.int .i64 k2) ∧ (xw3.alloc (.cells #[.int .i64 0, .int .i64 0, .int .i64 am] 49)).cell? ⟨sb, 7, none⟩ = some (.int .i64 day) ∧ (xw3.alloc (.cells #[.int .i64 0, .int .i64 0, .int .i64 am] 49)).cell? ⟨xw3.heap.size, 0, none⟩ = some (.int .i64 0) ∧ (xw3.alloc (.cells #[.int .i64 0, .int .i64 0, .int .i64 am] 49)).cell? ⟨xw3.heap.size, 1, none⟩ = some (.int .i64 0) ∧ (xw3.alloc (.cells #[.int .i64 0, .int .i64 0, .int .i64 am] 49)).cell? ⟨xw3.heap.size, 2, none⟩ = some (.int .i64 am) := by refine ⟨?_, ?_, ?_, ?_, ?_, ?_, ?_, ?_, ?_, ?_, ?_, ?_, ?_, ?_, ?_, ?_, ?_, ?_, ?_, ?_, ?_, ?_⟩ <;> (simp [go_sem, cP, *])
    obtain ⟨y0f1, y0f2, y0f3⟩ : (∀ j, (xw3.alloc (.cells #[.int .i64 0, .int .i64 0, .int .i64 am] 49)).frozen? ⟨ib, j, none⟩ = false) ∧ (∀ j, (xw3.alloc (.cells #[.int .i64 0, .int .i64 0, .int .i64 am] 49)).frozen? ⟨sb, j, none⟩ = false) ∧ (∀ j, (xw3.alloc (.cells #[.int .i64 0, .int .i64 0, .int .i64 am] 49)).frozen? ⟨xw3.heap.size, j, none⟩ = false) := by refine ⟨?_, ?_, ?_⟩ <;> (intro j; simp [go_sem, *])
    have hzy0 : (xw3.alloc (.cells #[.int .i64 0, .int .i64 0, .int .i64 am] 49)).heap.size = xw3.heap.size + 1 := by simp
    have hBy0 : Below w.heap.size w (xw3.alloc (.cells #[.int .i64 0, .int .i64 0, .int .i64 am] 49)) := hBx3.alloc hBx3.size _
    generalize hWy0 : xw3.alloc (.cells #[.int .i64 0, .int .i64 0, .int .i64 am] 49) = y0 at *
    clear hWy0
    have ly0 : w.heap.size < xw3.heap.size := by omega
    have ly1 : ib < xw3.heap.size := by omega
    have ly2 : sb < xw3.heap.size := by omega
    have ly3 : v < xw3.heap.size := by omega
    clear x3A0 x3A1 x3A2 x3A3 x3A4 x3A5 x3A6 x3A7 x3B0 x3B1 x3B2 x3C0 x3C1 x3C2 x3C3 x3C4 x3C5 x3C6 x3C7 x3f1 x3f2 x3o0 x3n0 x3t0_0 x3o1 x3n1 x3t1_0 x3o2 x3n2 x3t2_0 hBx3
    generalize htb : xw3.heap.size = tb at *
    clear htb
    have e1 : w.heap.size ≠ tb := by omega
    have e2 : ib ≠ tb := by omega
    have e3 : sb ≠ tb := by omega
    have e4 : tb ≠ w.heap.size := by omega
    have e5 : tb ≠ ib := by omega
    have e6 : tb ≠ sb := by omega
    have e7 : v ≠ tb := by omega
    have e8 : tb ≠ v := by omega
    have q1y0 : w.heap.size < y0.heap.size := by omega
    have q2y0 : ib < y0.heap.size := by omega
    have q3y0 : sb < y0.heap.size := by omega
    have q4y0 : tb < y0.heap.size := by omega
    have q5y0 : v < y0.heap.size := by omega
    refine wp_region_held_drew (S := (fun w' => w'.cell? ⟨w.heap.size, 6, none⟩ = some (.int .i64 am) ∧ w'.cell? ⟨ib, qa * 3, none⟩ = some (.int .i64 a0) ∧ w'.cell? ⟨ib, qa * 3 + 1, none⟩ = some (.int .i64 a1) ∧ w'.cell? ⟨ib, qa * 3 + 2, none⟩ = some (.int .i64 a2) ∧ w'.cell? ⟨sb, 0, none⟩ = some (.slice (some ⟨ib, 0, none⟩) n ic))) (by kernel_rfl) (by simp [go_sem, cP, *]) (fun hHeld => ?_)
    refine tkA 0 50 rfl ?_
    refine tkA 1 51 rfl ?_
    refine tkA 2 52 rfl ?_
    refine tkA 3 53 rfl ?_
    refine tkA 4 54 rfl ?_
    refine tkA 5 55 rfl ?_
    refine tkA 6 56 rfl ?_
    refine tkA 8 58 rfl ?_
    refine tkA 9 59 rfl ?_
    refine rdA 7 rfl (fun K hK => ?_)
    go_simp
    refine (refSum_ok a0 a1 a2 SA _ hcA hSA).mono ?_
    rintro e p1w1 ⟨rfl, hbp11⟩
    have zp11 := hbp11.size
    try simp at zp11
    obtain ⟨p11A0, p11A1, p11A2, p11A3, p11A4, p11A5, p11A6, p11A7, p11B0, p11B1, p11B2, p11C0, p11C1, p11C2, p11C3, p11C4, p11C5, p11C6, p11C7, p11D0, p11D1, p11D2⟩ : p1w1.cell? ⟨w.heap.size, 0, none⟩ = some (.int .i64 2) ∧ p1w1.cell? ⟨w.heap.size, 1, none⟩ = some (.int .i64 d) ∧ p1w1.cell? ⟨w.heap.size, 2, none⟩ = some (.string fr) ∧ p1w1.cell? ⟨w.heap.size, 3, none⟩ = some (.string ⟨#[]⟩) ∧ p1w1.cell? ⟨w.heap.size, 4, none⟩ = some (.int .i64 0) ∧ p1w1.cell? ⟨w.heap.size, 5, none⟩ = some (.int .i64 0) ∧ p1w1.cell? ⟨w.heap.size, 6, none⟩ = some (.int .i64 am) ∧ p1w1.cell? ⟨w.heap.size, 7, none⟩ = some (.bool pu) ∧ p1w1.cell? ⟨ib, qa * 3, none⟩ = some (.int .i64 a0) ∧ p1w1.cell? ⟨ib, qa * 3 + 1, none⟩ = some (.int .i64 a1) ∧ p1w1.cell? ⟨ib, qa * 3 + 2, none⟩ = some (.int .i64 a2) ∧ p1w1.cell? ⟨sb, 0, none⟩ = some (.slice (some ⟨ib, 0, none⟩) n ic) ∧ p1w1.cell? ⟨sb, 1, none⟩ = some (.int .i64 g0) ∧ p1w1.cell? ⟨sb, 2, none⟩ = some (.int .i64 g1) ∧ p1w1.cell? ⟨sb, 3, none⟩ = some (.int .i64 g2) ∧ p1w1.cell? ⟨sb, 4, none⟩ = some (.int .i64 k0) ∧ p1w1.cell? ⟨sb, 5, none⟩ = some (.int .i64 k1) ∧ p1w1.cell? ⟨sb, 6, none⟩ = some (.int .i64 k2) ∧ p1w1.cell? ⟨sb, 7, none⟩ = some (.int .i64 day) ∧ p1w1.cell? ⟨tb, 0, none⟩ = some (.int .i64 0) ∧ p1w1.cell? ⟨tb, 1, none⟩ = some (.int .i64 0) ∧ p1w1.cell? ⟨tb, 2, none⟩ = some (.int .i64 am) := by refine ⟨?_, ?_, ?_, ?_, ?_, ?_, ?_, ?_, ?_, ?_, ?_, ?_, ?_, ?_, ?_, ?_, ?_, ?_, ?_, ?_, ?_, ?_⟩ <;> (rw [bc1 hbp11]; simp [go_sem, cP, *])
    obtain ⟨p11f1, p11f2, p11f3⟩ : (∀ j, p1w1.frozen? ⟨ib, j, none⟩ = false) ∧ (∀ j, p1w1.frozen? ⟨sb, j, none⟩ = false) ∧ (∀ j, p1w1.frozen? ⟨tb, j, none⟩ = false) := by refine ⟨?_, ?_, ?_⟩ <;> (intro j; rw [bc2 hbp11]; simp [go_sem, *])
    obtain ⟨p11o0, p11n0, p11o1, p11n1, p11o2, p11n2, p11o3, p11n3⟩ : w.heap.size < p1w1.heap.size ∧ p1w1.heap.size ≠ w.heap.size ∧ ib < p1w1.heap.size ∧ p1w1.heap.size ≠ ib ∧ sb < p1w1.heap.size ∧ p1w1.heap.size ≠ sb ∧ tb < p1w1.heap.size ∧ p1w1.heap.size ≠ tb := by refine ⟨?_, ?_, ?_, ?_, ?_, ?_, ?_, ?_⟩ <;> omega
    have hBp11 : Below y0.heap.size y0 p1w1 := belA
    clear hbp11 y0A0 y0A1 y0A2 y0A3 y0A4 y0A5 y0A6 y0A7 y0B0 y0B1 y0B2 y0C0 y0C1 y0C2 y0C3 y0C4 y0C5 y0C6 y0C7 y0D0 y0D1 y0D2 y0f1 y0f2 y0f3 q1y0 q2y0 q3y0 q4y0 q5y0
    go_wp2_with fail
    refine hK.out _ _ (by simp [go_sem, cP, *]) (fun hHeld => ?_)
    clear hK K
    try simp only [Act.put, sA, sB, sC]
    refine tkA 10 60 rfl ?_
    refine wpAnyH_done (by kernel_rfl) ?_ _
    have hBp1w1 : Below w.heap.size w p1w1 := hBy0.trans (hBp11.mono (by omega))
    by_cases hs : SA < am
    · have hr : Hid ((20 : Int) = E) := Lib.hid (by rw [← hE.out]; unfold pos2; rw [if_neg (by omega), if_pos hs])
      go_wp2
      go_ret
      exact ⟨ret_int hr.out, Or.inl ⟨by have := hr.out; omega, (by first | exact hBp1w1 | exact hBp1w1.drew)⟩⟩
    · skip
      obtain ⟨-, ⟨X0, X1, -, -⟩, ⟨Y0, Y1, -, -⟩, Z0, Z1, -, -⟩ := share_ok hcA.out (by omega) (by have := hSA.out; omega) hX.out
      have le : Hid (am ≤ a0 + a1 + a2) := Lib.hid (by have := hSA.out; omega)
      go_upto_region 10 with (fail)
      refine wp_region_held_drew (S := (fun w' => w'.cell? ⟨w.heap.size, 6, none⟩ = some (.int .i64 am) ∧ w'.cell? ⟨ib, qa * 3, none⟩ = some (.int .i64 a0) ∧ w'.cell? ⟨ib, qa * 3 + 1, none⟩ = some (.int .i64 a1) ∧ w'.cell? ⟨ib, qa * 3 + 2, none⟩ = some (.int .i64 a2) ∧ w'.cell? ⟨sb, 0, none⟩ = some (.slice (some ⟨ib, 0, none⟩) n ic))) (by kernel_rfl) (by simp [go_sem, cP, *]) (fun hHeld => ?_)
      refine tkA 0 61 rfl ?_
      refine tkA 1 62 rfl ?_
      refine tkA 2 63 rfl ?_
      refine tkA 3 64 rfl ?_
      refine tkA 4 65 rfl ?_
      refine tkA 5 66 rfl ?_
      refine tkA 6 67 rfl ?_
      refine tkA 7 68 rfl ?_
      refine tkA 8 69 rfl ?_
      refine rdA 9 rfl (fun K hK => ?_)
      go_simp
      refine (refShare_any a0 a1 a2 am X Y Z _ hcA (by omega) le hX).mono ?_
      rintro e p2w1 ⟨rfl, hbp21⟩
      have zp21 := hbp21.size
      try simp at zp21
      obtain ⟨p21A0, p21A1, p21A2, p21A3, p21A4, p21A5, p21A6, p21A7, p21B0, p21B1, p21B2, p21C0, p21C1, p21C2, p21C3, p21C4, p21C5, p21C6, p21C7, p21D0, p21D1, p21D2⟩ : p2w1.cell? ⟨w.heap.size, 0, none⟩ = some (.int .i64 2) ∧ p2w1.cell? ⟨w.heap.size, 1, none⟩ = some (.int .i64 d) ∧ p2w1.cell? ⟨w.heap.size, 2, none⟩ = some (.string fr) ∧ p2w1.cell? ⟨w.heap.size, 3, none⟩ = some (.string ⟨#[]⟩) ∧ p2w1.cell? ⟨w.heap.size, 4, none⟩ = some (.int .i64 0) ∧ p2w1.cell? ⟨w.heap.size, 5, none⟩ = some (.int .i64 0) ∧ p2w1.cell? ⟨w.heap.size, 6, none⟩ = some (.int .i64 am) ∧ p2w1.cell? ⟨w.heap.size, 7, none⟩ = some (.bool pu) ∧ p2w1.cell? ⟨ib, qa * 3, none⟩ = some (.int .i64 a0) ∧ p2w1.cell? ⟨ib, qa * 3 + 1, none⟩ = some (.int .i64 a1) ∧ p2w1.cell? ⟨ib, qa * 3 + 2, none⟩ = some (.int .i64 a2) ∧ p2w1.cell? ⟨sb, 0, none⟩ = some (.slice (some ⟨ib, 0, none⟩) n ic) ∧ p2w1.cell? ⟨sb, 1, none⟩ = some (.int .i64 g0) ∧ p2w1.cell? ⟨sb, 2, none⟩ = some (.int .i64 g1) ∧ p2w1.cell? ⟨sb, 3, none⟩ = some (.int .i64 g2) ∧ p2w1.cell? ⟨sb, 4, none⟩ = some (.int .i64 k0) ∧ p2w1.cell? ⟨sb, 5, none⟩ = some (.int .i64 k1) ∧ p2w1.cell? ⟨sb, 6, none⟩ = some (.int .i64 k2) ∧ p2w1.cell? ⟨sb, 7, none⟩ = some (.int .i64 day) ∧ p2w1.cell? ⟨tb, 0, none⟩ = some (.int .i64 0) ∧ p2w1.cell? ⟨tb, 1, none⟩ = some (.int .i64 0) ∧ p2w1.cell? ⟨tb, 2, none⟩ = some (.int .i64 am) := by refine ⟨?_, ?_, ?_, ?_, ?_, ?_, ?_, ?_, ?_, ?_, ?_, ?_, ?_, ?_, ?_, ?_, ?_, ?_, ?_, ?_, ?_, ?_⟩ <;> (rw [bc1 hbp21]; simp [go_sem, cP, *])
      obtain ⟨p21f1, p21f2, p21f3⟩ : (∀ j, p2w1.frozen? ⟨ib, j, none⟩ = false) ∧ (∀ j, p2w1.frozen? ⟨sb, j, none⟩ = false) ∧ (∀ j, p2w1.frozen? ⟨tb, j, none⟩ = false) := by refine ⟨?_, ?_, ?_⟩ <;> (intro j; rw [bc2 hbp21]; simp [go_sem, *])
      obtain ⟨p21o0, p21n0, p21o1, p21n1, p21o2, p21n2, p21o3, p21n3⟩ : w.heap.size < p2w1.heap.size ∧ p2w1.heap.size ≠ w.heap.size ∧ ib < p2w1.heap.size ∧ p2w1.heap.size ≠ ib ∧ sb < p2w1.heap.size ∧ p2w1.heap.size ≠ sb ∧ tb < p2w1.heap.size ∧ p2w1.heap.size ≠ tb := by refine ⟨?_, ?_, ?_, ?_, ?_, ?_, ?_, ?_⟩ <;> omega
      have hBp21 : Below p1w1.heap.size p1w1 p2w1 := belA
      clear hbp21 p11A0 p11A1 p11A2 p11A3 p11A4 p11A5 p11A6 p11A7 p11B0 p11B1 p11B2 p11C0 p11C1 p11C2 p11C3 p11C4 p11C5 p11C6 p11C7 p11D0 p11D1 p11D2 p11f1 p11f2 p11f3 p11o0 p11n0 p11o1 p11n1 p11o2 p11n2 p11o3 p11n3 hBp11
      go_wp2_with fail
      refine hK.out _ _ (by simp [go_sem, cP, *]) (fun hHeld => ?_)
      clear hK K
      try simp only [Act.put, sA, sB, sC]
      refine rdA 10 rfl (fun K hK => ?_)
      go_simp
      go_wp2_with fail
      refine hK.out _ _ (by simp [go_sem, cP, *]) (fun hHeld => ?_)
      clear hK K
      try simp only [Act.put, sA, sB, sC]
      refine wpAnyH_done (by kernel_rfl) ?_ _
      obtain ⟨y2A0, y2A1, y2A2, y2A3, y2A4, y2A5, y2A6, y2A7, y2B0, y2B1, y2B2, y2C0, y2C1, y2C2, y2C3, y2C4, y2C5, y2C6, y2C7, y2D0, y2D1, y2D2⟩ : (((p2w1.setCell ⟨tb, 0, none⟩ (.int .i64 X)).setCell ⟨tb, 1, none⟩ (.int .i64 Y)).setCell ⟨tb, 2, none⟩ (.int .i64 Z)).cell? ⟨w.heap.size, 0, none⟩ = some (.int .i64 2) ∧ (((p2w1.setCell ⟨tb, 0, none⟩ (.int .i64 X)).setCell ⟨tb, 1, none⟩ (.int .i64 Y)).setCell ⟨tb, 2, none⟩ (.int .i64 Z)).cell? ⟨w.heap.size, 1, none⟩ = some (.int .i64 d) ∧ (((p2w1.setCell ⟨tb, 0, none⟩ (.int .i64 X)).setCell ⟨tb, 1, none⟩ (.int .i64 Y)).setCell ⟨tb, 2, none⟩ (.int .i64 Z)).cell? ⟨w.heap.size, 2, none⟩ = some (.string fr) ∧ (((p2w1.setCell ⟨tb, 0, none⟩ (.int .i64 X)).setCell ⟨tb, 1, none⟩ (.int .i64 Y)).setCell ⟨tb, 2, none⟩ (.int .i64 Z)).cell? ⟨w.heap.size, 3, none⟩ = some (.string ⟨#[]⟩) ∧ (((p2w1.setCell ⟨tb, 0, none⟩ (.int .i64 X)).setCell ⟨tb, 1, none⟩ (.int .i64 Y)).setCell ⟨tb, 2, none⟩ (.int .i64 Z)).cell? ⟨w.heap.size, 4, none⟩ = some (.int .i64 0) ∧ (((p2w1.setCell ⟨tb, 0, none⟩ (.int .i64 X)).setCell ⟨tb, 1, none⟩ (.int .i64 Y)).setCell ⟨tb, 2, none⟩ (.int .i64 Z)).cell? ⟨w.heap.size, 5, none⟩ = some (.int .i64 0) ∧ (((p2w1.setCell ⟨tb, 0, none⟩ (.int .i64 X)).setCell ⟨tb, 1, none⟩ (.int .i64 Y)).setCell ⟨tb, 2, none⟩ (.int .i64 Z)).cell? ⟨w.heap.size, 6, none⟩ = some (.int .i64 am) ∧ (((p2w1.setCell ⟨tb, 0, none⟩ (.int .i64 X)).setCell ⟨tb, 1, none⟩ (.int .i64 Y)).setCell ⟨tb, 2, none⟩ (.int .i64 Z)).cell? ⟨w.heap.size, 7, none⟩ = some (.bool pu) ∧ (((p2w1.setCell ⟨tb, 0, none⟩ (.int .i64 X)).setCell ⟨tb, 1, none⟩ (.int .i64 Y)).setCell ⟨tb, 2, none⟩ (.int .i64 Z)).cell? ⟨ib, qa * 3, none⟩ = some (.int .i64 a0) ∧ (((p2w1.setCell ⟨tb, 0, none⟩ (.int .i64 X)).setCell ⟨tb, 1, none⟩ (.int .i64 Y)).setCell ⟨tb, 2, none⟩ (.int .i64 Z)).cell? ⟨ib, qa * 3 + 1, none⟩ = some (.int .i64 a1) ∧ (((p2w1.setCell ⟨tb, 0, none⟩ (.int .i64 X)).setCell ⟨tb, 1, none⟩ (.int .i64 Y)).setCell ⟨tb, 2, none⟩ (.int .i64 Z)).cell? ⟨ib, qa * 3 + 2, none⟩ = some (.int .i64 a2) ∧ (((p2w1.setCell ⟨tb, 0, none⟩ (.int .i64 X)).setCell ⟨tb, 1, none⟩ (.int .i64 Y)).setCell ⟨tb, 2, none⟩ (.int .i64 Z)).cell? ⟨sb, 0, none⟩ = some (.slice (some ⟨ib, 0, none⟩) n ic) ∧ (((p2w1.setCell ⟨tb, 0, none⟩ (.int .i64 X)).setCell ⟨tb, 1, none⟩ (.int .i64 Y)).setCell ⟨tb, 2, none⟩ (.int .i64 Z)).cell? ⟨sb, 1, none⟩ = some (.int .i64 g0) ∧ (((p2w1.setCell ⟨tb, 0, none⟩ (.int .i64 X)).setCell ⟨tb, 1, none⟩ (.int .i64 Y)).setCell ⟨tb, 2, none⟩ (.int .i64 Z)).cell? ⟨sb, 2, none⟩ = some (.int .i64 g1) ∧ (((p2w1.setCell ⟨tb, 0, none⟩ (.int .i64 X)).setCell ⟨tb, 1, none⟩ (.int .i64 Y)).setCell ⟨tb, 2, none⟩ (.int .i64 Z)).cell? ⟨sb, 3, none⟩ = some (.int .i64 g2) ∧ (((p2w1.setCell ⟨tb, 0, none⟩ (.int .i64 X)).setCell ⟨tb, 1, none⟩ (.int .i64 Y)).setCell ⟨tb, 2, none⟩ (.int .i64 Z)).cell? ⟨sb, 4, none⟩ = some (.int .i64 k0) ∧ (((p2w1.setCell ⟨tb, 0, none⟩ (.int .i64 X)).setCell ⟨tb, 1, none⟩ (.int .i64 Y)).setCell ⟨tb, 2, none⟩ (.int .i64 Z)).cell? ⟨sb, 5, none⟩ = some (.int .i64 k1) ∧ (((p2w1.setCell ⟨tb, 0, none⟩ (.int .i64 X)).setCell ⟨tb, 1, none⟩ (.int .i64 Y)).setCell ⟨tb, 2, none⟩ (.int .i64 Z)).cell? ⟨sb, 6, none⟩ = some (.int .i64 k2) ∧ (((p2w1.setCell ⟨tb, 0, none⟩ (.int .i64 X)).setCell ⟨tb, 1, none⟩ (.int .i64 Y)).setCell ⟨tb, 2, none⟩ (.int .i64 Z)).cell? ⟨sb, 7, none⟩ = some (.int .i64 day) ∧ (((p2w1.setCell ⟨tb, 0, none⟩ (.int .i64 X)).setCell ⟨tb, 1, none⟩ (.int .i64 Y)).setCell ⟨tb, 2, none⟩ (.int .i64 Z)).cell? ⟨tb, 0, none⟩ = some (.int .i64 X) ∧ (((p2w1.setCell ⟨tb, 0, none⟩ (.int .i64 X)).setCell ⟨tb, 1, none⟩ (.int .i64 Y)).setCell ⟨tb, 2, none⟩ (.int .i64 Z)).cell? ⟨tb, 1, none⟩ = some (.int .i64 Y) ∧ (((p2w1.setCell ⟨tb, 0, none⟩ (.int .i64 X)).setCell ⟨tb, 1, none⟩ (.int .i64 Y)).setCell ⟨tb, 2, none⟩ (.int .i64 Z)).cell? ⟨tb, 2, none⟩ = some (.int .i64 Z) := by refine ⟨?_, ?_, ?_, ?_, ?_, ?_, ?_, ?_, ?_, ?_, ?_, ?_, ?_, ?_, ?_, ?_, ?_, ?_, ?_, ?_, ?_, ?_⟩ <;> (simp [go_sem, cP, *])
      obtain ⟨y2f1, y2f2, y2f3⟩ : (∀ j, (((p2w1.setCell ⟨tb, 0, none⟩ (.int .i64 X)).setCell ⟨tb, 1, none⟩ (.int .i64 Y)).setCell ⟨tb, 2, none⟩ (.int .i64 Z)).frozen? ⟨ib, j, none⟩ = false) ∧ (∀ j, (((p2w1.setCell ⟨tb, 0, none⟩ (.int .i64 X)).setCell ⟨tb, 1, none⟩ (.int .i64 Y)).setCell ⟨tb, 2, none⟩ (.int .i64 Z)).frozen? ⟨sb, j, none⟩ = false) ∧ (∀ j, (((p2w1.setCell ⟨tb, 0, none⟩ (.int .i64 X)).setCell ⟨tb, 1, none⟩ (.int .i64 Y)).setCell ⟨tb, 2, none⟩ (.int .i64 Z)).frozen? ⟨tb, j, none⟩ = false) := by refine ⟨?_, ?_, ?_⟩ <;> (intro j; simp [go_sem, *])
      have hzy2 : (((p2w1.setCell ⟨tb, 0, none⟩ (.int .i64 X)).setCell ⟨tb, 1, none⟩ (.int .i64 Y)).setCell ⟨tb, 2, none⟩ (.int .i64 Z)).heap.size = p2w1.heap.size := by simp
      have hBy2 : Below w.heap.size w (((p2w1.setCell ⟨tb, 0, none⟩ (.int .i64 X)).setCell ⟨tb, 1, none⟩ (.int .i64 Y)).setCell ⟨tb, 2, none⟩ (.int .i64 Z)) := (((hBp1w1.trans (hBp21.mono (by omega))).setCell (by show w.heap.size ≤ tb; omega) _).setCell (by show w.heap.size ≤ tb; omega) _).setCell (by show w.heap.size ≤ tb; omega) _
      have zsy2 : p1w1.heap.size ≤ (((p2w1.setCell ⟨tb, 0, none⟩ (.int .i64 X)).setCell ⟨tb, 1, none⟩ (.int .i64 Y)).setCell ⟨tb, 2, none⟩ (.int .i64 Z)).heap.size := by rw [hzy2]; exact hBp21.size
      clear p21A0 p21A1 p21A2 p21A3 p21A4 p21A5 p21A6 p21A7 p21B0 p21B1 p21B2 p21C0 p21C1 p21C2 p21C3 p21C4 p21C5 p21C6 p21C7 p21D0 p21D1 p21D2 p21f1 p21f2 p21f3 p21o0 p21n0 p21o1 p21n1 p21o2 p21n2 p21o3 p21n3 hBp21
      generalize hWy2 : ((p2w1.setCell ⟨tb, 0, none⟩ (.int .i64 X)).setCell ⟨tb, 1, none⟩ (.int .i64 Y)).setCell ⟨tb, 2, none⟩ (.int .i64 Z) = y2 at *
      clear hWy2
      have q1y2 : w.heap.size < y2.heap.size := by omega
      have q2y2 : ib < y2.heap.size := by omega
      have q3y2 : sb < y2.heap.size := by omega
      have q4y2 : tb < y2.heap.size := by omega
      have q5y2 : v < y2.heap.size := by omega
      go_upto_region 19 with (fail)
      refine wp_region_Z (S := (fun w' => w'.cell? ⟨ib, qa * 3, none⟩ = some (.int .i64 a0) ∧ w'.cell? ⟨ib, qa * 3 + 1, none⟩ = some (.int .i64 a1) ∧ w'.cell? ⟨ib, qa * 3 + 2, none⟩ = some (.int .i64 a2) ∧ w'.cell? ⟨sb, 0, none⟩ = some (.slice (some ⟨ib, 0, none⟩) n ic) ∧ w'.cell? ⟨tb, 0, none⟩ = some (.int .i64 X) ∧ w'.cell? ⟨tb, 1, none⟩ = some (.int .i64 Y) ∧ w'.cell? ⟨tb, 2, none⟩ = some (.int .i64 Z))) 15 (by kernel_rfl) (by kernel_rfl) (by kernel_rfl) (by simp [go_sem, cP, *]) (fun hHeld => ?_)
      refine tzA 0 152 rfl ?_
      refine tzA 1 153 rfl ?_
      refine tzA 2 154 rfl ?_
      refine tzA 3 155 rfl ?_
      refine tzA 4 156 rfl ?_
      refine tzA 5 157 rfl ?_
      refine tzA 6 158 rfl ?_
      refine tzA 7 159 rfl ?_
      refine tzA 8 160 rfl ?_
      refine tzA 9 161 rfl ?_
      refine tzA 10 162 rfl ?_
      refine tzA 11 163 rfl ?_
      refine tzA 12 164 rfl ?_
      refine wpAnyZ_call (q := 13) (by kernel_rfl) rfl rfl (fun K hK => ?_)
      go_simp
      refine (refMinus_any a0 a1 a2 X Y Z n0 n1 n2 _ (by omega) (by omega) (by omega) (by omega) (by omega) (by omega) (by omega) (by omega) (by omega) (by omega) (by omega) (by omega) hN).mono ?_
      rintro e p3w1 ⟨rfl, hbp31⟩
      have zp31 := hbp31.size
      try simp at zp31
      obtain ⟨p31A0, p31A1, p31A2, p31A3, p31A4, p31A5, p31A6, p31A7, p31B0, p31B1, p31B2, p31C0, p31C1, p31C2, p31C3, p31C4, p31C5, p31C6, p31C7, p31D0, p31D1, p31D2⟩ : p3w1.cell? ⟨w.heap.size, 0, none⟩ = some (.int .i64 2) ∧ p3w1.cell? ⟨w.heap.size, 1, none⟩ = some (.int .i64 d) ∧ p3w1.cell? ⟨w.heap.size, 2, none⟩ = some (.string fr) ∧ p3w1.cell? ⟨w.heap.size, 3, none⟩ = some (.string ⟨#[]⟩) ∧ p3w1.cell? ⟨w.heap.size, 4, none⟩ = some (.int .i64 0) ∧ p3w1.cell? ⟨w.heap.size, 5, none⟩ = some (.int .i64 0) ∧ p3w1.cell? ⟨w.heap.size, 6, none⟩ = some (.int .i64 am) ∧ p3w1.cell? ⟨w.heap.size, 7, none⟩ = some (.bool pu) ∧ p3w1.cell? ⟨ib, qa * 3, none⟩ = some (.int .i64 a0) ∧ p3w1.cell? ⟨ib, qa * 3 + 1, none⟩ = some (.int .i64 a1) ∧ p3w1.cell? ⟨ib, qa * 3 + 2, none⟩ = some (.int .i64 a2) ∧ p3w1.cell? ⟨sb, 0, none⟩ = some (.slice (some ⟨ib, 0, none⟩) n ic) ∧ p3w1.cell? ⟨sb, 1, none⟩ = some (.int .i64 g0) ∧ p3w1.cell? ⟨sb, 2, none⟩ = some (.int .i64 g1) ∧ p3w1.cell? ⟨sb, 3, none⟩ = some (.int .i64 g2) ∧ p3w1.cell? ⟨sb, 4, none⟩ = some (.int .i64 k0) ∧ p3w1.cell? ⟨sb, 5, none⟩ = some (.int .i64 k1) ∧ p3w1.cell? ⟨sb, 6, none⟩ = some (.int .i64 k2) ∧ p3w1.cell? ⟨sb, 7, none⟩ = some (.int .i64 day) ∧ p3w1.cell? ⟨tb, 0, none⟩ = some (.int .i64 X) ∧ p3w1.cell? ⟨tb, 1, none⟩ = some (.int .i64 Y) ∧ p3w1.cell? ⟨tb, 2, none⟩ = some (.int .i64 Z) := by refine ⟨?_, ?_, ?_, ?_, ?_, ?_, ?_, ?_, ?_, ?_, ?_, ?_, ?_, ?_, ?_, ?_, ?_, ?_, ?_, ?_, ?_, ?_⟩ <;> (rw [bc1 hbp31]; simp [go_sem, cP, *])
      obtain ⟨p31f1, p31f2, p31f3⟩ : (∀ j, p3w1.frozen? ⟨ib, j, none⟩ = false) ∧ (∀ j, p3w1.frozen? ⟨sb, j, none⟩ = false) ∧ (∀ j, p3w1.frozen? ⟨tb, j, none⟩ = false) := by refine ⟨?_, ?_, ?_⟩ <;> (intro j; rw [bc2 hbp31]; simp [go_sem, *])
      obtain ⟨p31o0, p31n0, p31o1, p31n1, p31o2, p31n2, p31o3, p31n3⟩ : w.heap.size < p3w1.heap.size ∧ p3w1.heap.size ≠ w.heap.size ∧ ib < p3w1.heap.size ∧ p3w1.heap.size ≠ ib ∧ sb < p3w1.heap.size ∧ p3w1.heap.size ≠ sb ∧ tb < p3w1.heap.size ∧ p3w1.heap.size ≠ tb := by refine ⟨?_, ?_, ?_, ?_, ?_, ?_, ?_, ?_⟩ <;> omega
      have hBp31 : Below y2.heap.size y2 p3w1 := belA
      clear hbp31 y2A0 y2A1 y2A2 y2A3 y2A4 y2A5 y2A6 y2A7 y2B0 y2B1 y2B2 y2C0 y2C1 y2C2 y2C3 y2C4 y2C5 y2C6 y2C7 y2D0 y2D1 y2D2 y2f1 y2f2 y2f3 q1y2 q2y2 q3y2 q4y2 q5y2
      go_wp2_with fail
      refine hK.out _ _ (by simp [go_sem, cP, *]) (fun hHeld => ?_)
      clear hK K
      try simp only [Act.put, List.setIfInBounds_toArray, List.set_cons_zero, List.set_cons_succ]
      refine tzA 14 166 rfl ?_
      refine wpAnyZ_last (by kernel_rfl) rfl (fun K hK => ?_)
      go_simp
      go_wp2_with fail
      refine hK.out _ _ ?_
      clear hK K
      try simp only [Act.put, List.setIfInBounds_toArray, List.set_cons_zero, List.set_cons_succ]
      obtain ⟨y3A0, y3A1, y3A2, y3A3, y3A4, y3A5, y3A6, y3A7, y3B0, y3B1, y3B2, y3C0, y3C1, y3C2, y3C3, y3C4, y3C5, y3C6, y3C7, y3D0, y3D1, y3D2⟩ : (((p3w1.setCell ⟨ib, qa * 3, none⟩ (.int .i64 n0)).setCell ⟨ib, qa * 3 + 1, none⟩ (.int .i64 n1)).setCell ⟨ib, qa * 3 + 2, none⟩ (.int .i64 n2)).cell? ⟨w.heap.size, 0, none⟩ = some (.int .i64 2) ∧ (((p3w1.setCell ⟨ib, qa * 3, none⟩ (.int .i64 n0)).setCell ⟨ib, qa * 3 + 1, none⟩ (.int .i64 n1)).setCell ⟨ib, qa * 3 + 2, none⟩ (.int .i64 n2)).cell? ⟨w.heap.size, 1, none⟩ = some (.int .i64 d) ∧ (((p3w1.setCell ⟨ib, qa * 3, none⟩ (.int .i64 n0)).setCell ⟨ib, qa * 3 + 1, none⟩ (.int .i64 n1)).setCell ⟨ib, qa * 3 + 2, none⟩ (.int .i64 n2)).cell? ⟨w.heap.size, 2, none⟩ = some (.string fr) ∧ (((p3w1.setCell ⟨ib, qa * 3, none⟩ (.int .i64 n0)).setCell ⟨ib, qa * 3 + 1, none⟩ (.int .i64 n1)).setCell ⟨ib, qa * 3 + 2, none⟩ (.int .i64 n2)).cell? ⟨w.heap.size, 3, none⟩ = some (.string ⟨#[]⟩) ∧ (((p3w1.setCell ⟨ib, qa * 3, none⟩ (.int .i64 n0)).setCell ⟨ib, qa * 3 + 1, none⟩ (.int .i64 n1)).setCell ⟨ib, qa * 3 + 2, none⟩ (.int .i64 n2)).cell? ⟨w.heap.size, 4, none⟩ = some (.int .i64 0) ∧ (((p3w1.setCell ⟨ib, qa * 3, none⟩ (.int .i64 n0)).setCell ⟨ib, qa * 3 + 1, none⟩ (.int .i64 n1)).setCell ⟨ib, qa * 3 + 2, none⟩ (.int .i64 n2)).cell? ⟨w.heap.size, 5, none⟩ = some (.int .i64 0) ∧ (((p3w1.setCell ⟨ib, qa * 3, none⟩ (.int .i64 n0)).setCell ⟨ib, qa * 3 + 1, none⟩ (.int .i64 n1)).setCell ⟨ib, qa * 3 + 2, none⟩ (.int .i64 n2)).cell? ⟨w.heap.size, 6, none⟩ = some (.int .i64 am) ∧ (((p3w1.setCell ⟨ib, qa * 3, none⟩ (.int .i64 n0)).setCell ⟨ib, qa * 3 + 1, none⟩ (.int .i64 n1)).setCell ⟨ib, qa * 3 + 2, none⟩ (.int .i64 n2)).cell? ⟨w.heap.size, 7, none⟩ = some (.bool pu) ∧ (((p3w1.setCell ⟨ib, qa * 3, none⟩ (.int .i64 n0)).setCell ⟨ib, qa * 3 + 1, none⟩ (.int .i64 n1)).setCell ⟨ib, qa * 3 + 2, none⟩ (.int .i64 n2)).cell? ⟨ib, qa * 3, none⟩ = some (.int .i64 n0) ∧ (((p3w1.setCell ⟨ib, qa * 3, none⟩ (.int .i64 n0)).setCell ⟨ib, qa * 3 + 1, none⟩ (.int .i64 n1)).setCell ⟨ib, qa * 3 + 2, none⟩ (.int .i64 n2)).cell? ⟨ib, qa * 3 + 1, none⟩ = some (.int .i64 n1) ∧ (((p3w1.setCell ⟨ib, qa * 3, none⟩ (.int .i64 n0)).setCell ⟨ib, qa * 3 + 1, none⟩ (.int .i64 n1)).setCell ⟨ib, qa * 3 + 2, none⟩ (.int .i64 n2)).cell? ⟨ib, qa * 3 + 2, none⟩ = some (.int .i64 n2) ∧ (((p3w1.setCell ⟨ib, qa * 3, none⟩ (.int .i64 n0)).setCell ⟨ib, qa * 3 + 1, none⟩ (.int .i64 n1)).setCell ⟨ib, qa * 3 + 2, none⟩ (.int .i64 n2)).cell? ⟨sb, 0, none⟩ = some (.slice (some ⟨ib, 0, none⟩) n ic) ∧ (((p3w1.setCell ⟨ib, qa * 3, none⟩ (.int .i64 n0)).setCell ⟨ib, qa * 3 + 1, none⟩ (.int .i64 n1)).setCell ⟨ib, qa * 3 + 2, none⟩ (.int .i64 n2)).cell? ⟨sb, 1, none⟩ = some (.int .i64 g0) ∧ (((p3w1.setCell ⟨ib, qa * 3, none⟩ (.int .i64 n0)).setCell ⟨ib, qa * 3 + 1, none⟩ (.int .i64 n1)).setCell ⟨ib, qa * 3 + 2, none⟩ (.int .i64 n2)).cell? ⟨sb, 2, none⟩ = some (.int .i64 g1) ∧ (((p3w1.setCell ⟨ib, qa * 3, none⟩ (.int .i64 n0)).setCell ⟨ib, qa * 3 + 1, none⟩ (.int .i64 n1)).setCell ⟨ib, qa * 3 + 2, none⟩ (.int .i64 n2)).cell? ⟨sb, 3, none⟩ = some (.int .i64 g2) ∧ (((p3w1.setCell ⟨ib, qa * 3, none⟩ (.int .i64 n0)).setCell ⟨ib, qa * 3 + 1, none⟩ (.int .i64 n1)).setCell ⟨ib, qa * 3 + 2, none⟩ (.int .i64 n2)).cell? ⟨sb, 4, none⟩ = some (.int .i64 k0) ∧ (((p3w1.setCell ⟨ib, qa * 3, none⟩ (.int .i64 n0)).setCell ⟨ib, qa * 3 + 1, none⟩ (.int .i64 n1)).setCell ⟨ib, qa * 3 + 2, none⟩ (.int .i64 n2)).cell? ⟨sb, 5, none⟩ = some (.int .i64 k1) ∧ (((p3w1.setCell ⟨ib, qa * 3, none⟩ (.int .i64 n0)).setCell ⟨ib, qa * 3 + 1, none⟩ (.int .i64 n1)).setCell ⟨ib, qa * 3 + 2, none⟩ (.int .i64 n2)).cell? ⟨sb, 6, none⟩ = some (.int .i64 k2) ∧ (((p3w1.setCell ⟨ib, qa * 3, none⟩ (.int .i64 n0)).setCell ⟨ib, qa * 3 + 1, none⟩ (.int .i64 n1)).setCell ⟨ib, qa * 3 + 2, none⟩ (.int .i64 n2)).cell? ⟨sb, 7, none⟩ = some (.int .i64 day) ∧ (((p3w1.setCell ⟨ib, qa * 3, none⟩ (.int .i64 n0)).setCell ⟨ib, qa * 3 + 1, none⟩ (.int .i64 n1)).setCell ⟨ib, qa * 3 + 2, none⟩ (.int .i64 n2)).cell? ⟨tb, 0, none⟩ = some (.int .i64 X) ∧ (((p3w1.setCell ⟨ib, qa * 3, none⟩ (.int .i64 n0)).setCell ⟨ib, qa * 3 + 1, none⟩ (.int .i64 n1)).setCell ⟨ib, qa * 3 + 2, none⟩ (.int .i64 n2)).cell? ⟨tb, 1, none⟩ = some (.int .i64 Y) ∧ (((p3w1.setCell ⟨ib, qa * 3, none⟩ (.int .i64 n0)).setCell ⟨ib, qa * 3 + 1, none⟩ (.int .i64 n1)).setCell ⟨ib, qa * 3 + 2, none⟩ (.int .i64 n2)).cell? ⟨tb, 2, none⟩ = some (.int .i64 Z) := by refine ⟨?_, ?_, ?_, ?_, ?_, ?_, ?_, ?_, ?_, ?_, ?_, ?_, ?_, ?_, ?_, ?_, ?_, ?_, ?_, ?_, ?_, ?_⟩ <;> (simp [go_sem, cP, *])
      obtain ⟨y3f1, y3f2, y3f3⟩ : (∀ j, (((p3w1.setCell ⟨ib, qa * 3, none⟩ (.int .i64 n0)).setCell ⟨ib, qa * 3 + 1, none⟩ (.int .i64 n1)).setCell ⟨ib, qa * 3 + 2, none⟩ (.int .i64 n2)).frozen? ⟨ib, j, none⟩ = false) ∧ (∀ j, (((p3w1.setCell ⟨ib, qa * 3, none⟩ (.int .i64 n0)).setCell ⟨ib, qa * 3 + 1, none⟩ (.int .i64 n1)).setCell ⟨ib, qa * 3 + 2, none⟩ (.int .i64 n2)).frozen? ⟨sb, j, none⟩ = false) ∧ (∀ j, (((p3w1.setCell ⟨ib, qa * 3, none⟩ (.int .i64 n0)).setCell ⟨ib, qa * 3 + 1, none⟩ (.int .i64 n1)).setCell ⟨ib, qa * 3 + 2, none⟩ (.int .i64 n2)).frozen? ⟨tb, j, none⟩ = false) := by refine ⟨?_, ?_, ?_⟩ <;> (intro j; simp [go_sem, *])
      have hzy3 : (((p3w1.setCell ⟨ib, qa * 3, none⟩ (.int .i64 n0)).setCell ⟨ib, qa * 3 + 1, none⟩ (.int .i64 n1)).setCell ⟨ib, qa * 3 + 2, none⟩ (.int .i64 n2)).heap.size = p3w1.heap.size := by simp
      have hDy3 : BelowD sb ib w.heap.size w (((p3w1.setCell ⟨ib, qa * 3, none⟩ (.int .i64 n0)).setCell ⟨ib, qa * 3 + 1, none⟩ (.int .i64 n1)).setCell ⟨ib, qa * 3 + 2, none⟩ (.int .i64 n2)) := ((((BelowD.of (hBy2.trans (hBp31.mono (by omega))) (Nat.le_refl _))).set ib (qa * 3) _ (Or.inr (Or.inl rfl))).set ib (qa * 3 + 1) _ (Or.inr (Or.inl rfl))).set ib (qa * 3 + 2) _ (Or.inr (Or.inl rfl))
      have hVy3 : ∀ q, q ≠ qa * 3 → q ≠ qa * 3 + 1 → q ≠ qa * 3 + 2 → (((p3w1.setCell ⟨ib, qa * 3, none⟩ (.int .i64 n0)).setCell ⟨ib, qa * 3 + 1, none⟩ (.int .i64 n1)).setCell ⟨ib, qa * 3 + 2, none⟩ (.int .i64 n2)).cell? ⟨ib, q, none⟩ = w.cell? ⟨ib, q, none⟩ := fun q u0 u1 u2 => by rw [soff (Ne.symm u2), soff (Ne.symm u1), soff (Ne.symm u0)]; exact ((hBy2.trans (hBp31.mono (by omega))).cell (p := ⟨ib, q, none⟩) li)
      have zsy3 : y2.heap.size ≤ (((p3w1.setCell ⟨ib, qa * 3, none⟩ (.int .i64 n0)).setCell ⟨ib, qa * 3 + 1, none⟩ (.int .i64 n1)).setCell ⟨ib, qa * 3 + 2, none⟩ (.int .i64 n2)).heap.size := by rw [hzy3]; exact hBp31.size
      clear p31A0 p31A1 p31A2 p31A3 p31A4 p31A5 p31A6 p31A7 p31B0 p31B1 p31B2 p31C0 p31C1 p31C2 p31C3 p31C4 p31C5 p31C6 p31C7 p31D0 p31D1 p31D2 p31f1 p31f2 p31f3 p31o0 p31n0 p31o1 p31n1 p31o2 p31n2 p31o3 p31n3 hBp31
      generalize hWy3 : ((p3w1.setCell ⟨ib, qa * 3, none⟩ (.int .i64 n0)).setCell ⟨ib, qa * 3 + 1, none⟩ (.int .i64 n1)).setCell ⟨ib, qa * 3 + 2, none⟩ (.int .i64 n2) = y3 at *
      clear hWy3
      have q1y3 : w.heap.size < y3.heap.size := by omega
      have q2y3 : ib < y3.heap.size := by omega
      have q3y3 : sb < y3.heap.size := by omega
      have q4y3 : tb < y3.heap.size := by omega
      have q5y3 : v < y3.heap.size := by omega
      go_upto_region 23 with (fail)
      refine wp_region_Z (S := (fun w' => w'.cell? ⟨sb, 4, none⟩ = some (.int .i64 k0) ∧ w'.cell? ⟨sb, 5, none⟩ = some (.int .i64 k1) ∧ w'.cell? ⟨sb, 6, none⟩ = some (.int .i64 k2) ∧ w'.cell? ⟨tb, 0, none⟩ = some (.int .i64 X) ∧ w'.cell? ⟨tb, 1, none⟩ = some (.int .i64 Y) ∧ w'.cell? ⟨tb, 2, none⟩ = some (.int .i64 Z))) 11 (by kernel_rfl) (by kernel_rfl) (by kernel_rfl) (by simp [go_sem, cP, *]) (fun hHeld => ?_)
      refine tzA 0 184 rfl ?_
      refine tzA 1 185 rfl ?_
      refine tzA 2 186 rfl ?_
      refine tzA 3 187 rfl ?_
      refine tzA 4 188 rfl ?_
      refine tzA 5 189 rfl ?_
      refine tzA 6 190 rfl ?_
      refine wpAnyZ_call (q := 7) (by kernel_rfl) rfl rfl (fun K hK => ?_)
      go_simp
      refine (refPlus_any k0 k1 k2 X Y Z L0 L1 L2 _ (by omega) (by omega) (by omega) (by omega) (by omega) (by omega) (by omega) (by omega) (by omega) (by omega) (by omega) (by omega) hI).mono ?_
      rintro e p4w1 ⟨rfl, hbp41⟩
      have zp41 := hbp41.size
      try simp at zp41
      obtain ⟨p41A0, p41A1, p41A2, p41A3, p41A4, p41A5, p41A6, p41A7, p41B0, p41B1, p41B2, p41C0, p41C1, p41C2, p41C3, p41C4, p41C5, p41C6, p41C7, p41D0, p41D1, p41D2⟩ : p4w1.cell? ⟨w.heap.size, 0, none⟩ = some (.int .i64 2) ∧ p4w1.cell? ⟨w.heap.size, 1, none⟩ = some (.int .i64 d) ∧ p4w1.cell? ⟨w.heap.size, 2, none⟩ = some (.string fr) ∧ p4w1.cell? ⟨w.heap.size, 3, none⟩ = some (.string ⟨#[]⟩) ∧ p4w1.cell? ⟨w.heap.size, 4, none⟩ = some (.int .i64 0) ∧ p4w1.cell? ⟨w.heap.size, 5, none⟩ = some (.int .i64 0) ∧ p4w1.cell? ⟨w.heap.size, 6, none⟩ = some (.int .i64 am) ∧ p4w1.cell? ⟨w.heap.size, 7, none⟩ = some (.bool pu) ∧ p4w1.cell? ⟨ib, qa * 3, none⟩ = some (.int .i64 n0) ∧ p4w1.cell? ⟨ib, qa * 3 + 1, none⟩ = some (.int .i64 n1) ∧ p4w1.cell? ⟨ib, qa * 3 + 2, none⟩ = some (.int .i64 n2) ∧ p4w1.cell? ⟨sb, 0, none⟩ = some (.slice (some ⟨ib, 0, none⟩) n ic) ∧ p4w1.cell? ⟨sb, 1, none⟩ = some (.int .i64 g0) ∧ p4w1.cell? ⟨sb, 2, none⟩ = some (.int .i64 g1) ∧ p4w1.cell? ⟨sb, 3, none⟩ = some (.int .i64 g2) ∧ p4w1.cell? ⟨sb, 4, none⟩ = some (.int .i64 k0) ∧ p4w1.cell? ⟨sb, 5, none⟩ = some (.int .i64 k1) ∧ p4w1.cell? ⟨sb, 6, none⟩ = some (.int .i64 k2) ∧ p4w1.cell? ⟨sb, 7, none⟩ = some (.int .i64 day) ∧ p4w1.cell? ⟨tb, 0, none⟩ = some (.int .i64 X) ∧ p4w1.cell? ⟨tb, 1, none⟩ = some (.int .i64 Y) ∧ p4w1.cell? ⟨tb, 2, none⟩ = some (.int .i64 Z) := by refine ⟨?_, ?_, ?_, ?_, ?_, ?_, ?_, ?_, ?_, ?_, ?_, ?_, ?_, ?_, ?_, ?_, ?_, ?_, ?_, ?_, ?_, ?_⟩ <;> (rw [bc1 hbp41]; simp [go_sem, cP, *])
      obtain ⟨p41f1, p41f2, p41f3⟩ : (∀ j, p4w1.frozen? ⟨ib, j, none⟩ = false) ∧ (∀ j, p4w1.frozen? ⟨sb, j, none⟩ = false) ∧ (∀ j, p4w1.frozen? ⟨tb, j, none⟩ = false) := by refine ⟨?_, ?_, ?_⟩ <;> (intro j; rw [bc2 hbp41]; simp [go_sem, *])
      obtain ⟨p41o0, p41n0, p41o1, p41n1, p41o2, p41n2, p41o3, p41n3⟩ : w.heap.size < p4w1.heap.size ∧ p4w1.heap.size ≠ w.heap.size ∧ ib < p4w1.heap.size ∧ p4w1.heap.size ≠ ib ∧ sb < p4w1.heap.size ∧ p4w1.heap.size ≠ sb ∧ tb < p4w1.heap.size ∧ p4w1.heap.size ≠ tb := by refine ⟨?_, ?_, ?_, ?_, ?_, ?_, ?_, ?_⟩ <;> omega
      have hBp41 : Below y3.heap.size y3 p4w1 := belA
      clear hbp41 y3A0 y3A1 y3A2 y3A3 y3A4 y3A5 y3A6 y3A7 y3B0 y3B1 y3B2 y3C0 y3C1 y3C2 y3C3 y3C4 y3C5 y3C6 y3C7 y3D0 y3D1 y3D2 y3f1 y3f2 y3f3 q1y3 q2y3 q3y3 q4y3 q5y3
      go_wp2_with fail
      refine hK.out _ _ (by simp [go_sem, cP, *]) (fun hHeld => ?_)
      clear hK K
      try simp only [Act.put, List.setIfInBounds_toArray, List.set_cons_zero, List.set_cons_succ]
      refine tzA 8 192 rfl ?_
      refine tzA 9 193 rfl ?_
      refine tzA 10 194 rfl ?_
      refine wpAnyZ_last (by kernel_rfl) rfl (fun K hK => ?_)
      go_simp
      go_wp2_with fail
      refine hK.out _ _ ?_
      clear hK K
      try simp only [Act.put, List.setIfInBounds_toArray, List.set_cons_zero, List.set_cons_succ]
      obtain ⟨y4A0, y4A1, y4A2, y4A3, y4A4, y4A5, y4A6, y4A7, y4B0, y4B1, y4B2, y4C0, y4C1, y4C2, y4C3, y4C4, y4C5, y4C6, y4C7, y4D0, y4D1, y4D2⟩ : (((p4w1.setCell ⟨sb, 4, none⟩ (.int .i64 L0)).setCell ⟨sb, 5, none⟩ (.int .i64 L1)).setCell ⟨sb, 6, none⟩ (.int .i64 L2)).cell? ⟨w.heap.size, 0, none⟩ = some (.int .i64 2) ∧ (((p4w1.setCell ⟨sb, 4, none⟩ (.int .i64 L0)).setCell ⟨sb, 5, none⟩ (.int .i64 L1)).setCell ⟨sb, 6, none⟩ (.int .i64 L2)).cell? ⟨w.heap.size, 1, none⟩ = some (.int .i64 d) ∧ (((p4w1.setCell ⟨sb, 4, none⟩ (.int .i64 L0)).setCell ⟨sb, 5, none⟩ (.int .i64 L1)).setCell ⟨sb, 6, none⟩ (.int .i64 L2)).cell? ⟨w.heap.size, 2, none⟩ = some (.string fr) ∧ (((p4w1.setCell ⟨sb, 4, none⟩ (.int .i64 L0)).setCell ⟨sb, 5, none⟩ (.int .i64 L1)).setCell ⟨sb, 6, none⟩ (.int .i64 L2)).cell? ⟨w.heap.size, 3, none⟩ = some (.string ⟨#[]⟩) ∧ (((p4w1.setCell ⟨sb, 4, none⟩ (.int .i64 L0)).setCell ⟨sb, 5, none⟩ (.int .i64 L1)).setCell ⟨sb, 6, none⟩ (.int .i64 L2)).cell? ⟨w.heap.size, 4, none⟩ = some (.int .i64 0) ∧ (((p4w1.setCell ⟨sb, 4, none⟩ (.int .i64 L0)).setCell ⟨sb, 5, none⟩ (.int .i64 L1)).setCell ⟨sb, 6, none⟩ (.int .i64 L2)).cell? ⟨w.heap.size, 5, none⟩ = some (.int .i64 0) ∧ (((p4w1.setCell ⟨sb, 4, none⟩ (.int .i64 L0)).setCell ⟨sb, 5, none⟩ (.int .i64 L1)).setCell ⟨sb, 6, none⟩ (.int .i64 L2)).cell? ⟨w.heap.size, 6, none⟩ = some (.int .i64 am) ∧ (((p4w1.setCell ⟨sb, 4, none⟩ (.int .i64 L0)).setCell ⟨sb, 5, none⟩ (.int .i64 L1)).setCell ⟨sb, 6, none⟩ (.int .i64 L2)).cell? ⟨w.heap.size, 7, none⟩ = some (.bool pu) ∧ (((p4w1.setCell ⟨sb, 4, none⟩ (.int .i64 L0)).setCell ⟨sb, 5, none⟩ (.int .i64 L1)).setCell ⟨sb, 6, none⟩ (.int .i64 L2)).cell? ⟨ib, qa * 3, none⟩ = some (.int .i64 n0) ∧ (((p4w1.setCell ⟨sb, 4, none⟩ (.int .i64 L0)).setCell ⟨sb, 5, none⟩ (.int .i64 L1)).setCell ⟨sb, 6, none⟩ (.int .i64 L2)).cell? ⟨ib, qa * 3 + 1, none⟩ = some (.int .i64 n1) ∧ (((p4w1.setCell ⟨sb, 4, none⟩ (.int .i64 L0)).setCell ⟨sb, 5, none⟩ (.int .i64 L1)).setCell ⟨sb, 6, none⟩ (.int .i64 L2)).cell? ⟨ib, qa * 3 + 2, none⟩ = some (.int .i64 n2) ∧ (((p4w1.setCell ⟨sb, 4, none⟩ (.int .i64 L0)).setCell ⟨sb, 5, none⟩ (.int .i64 L1)).setCell ⟨sb, 6, none⟩ (.int .i64 L2)).cell? ⟨sb, 0, none⟩ = some (.slice (some ⟨ib, 0, none⟩) n ic) ∧ (((p4w1.setCell ⟨sb, 4, none⟩ (.int .i64 L0)).setCell ⟨sb, 5, none⟩ (.int .i64 L1)).setCell ⟨sb, 6, none⟩ (.int .i64 L2)).cell? ⟨sb, 1, none⟩ = some (.int .i64 g0) ∧ (((p4w1.setCell ⟨sb, 4, none⟩ (.int .i64 L0)).setCell ⟨sb, 5, none⟩ (.int .i64 L1)).setCell ⟨sb, 6, none⟩ (.int .i64 L2)).cell? ⟨sb, 2, none⟩ = some (.int .i64 g1) ∧ (((p4w1.setCell ⟨sb, 4, none⟩ (.int .i64 L0)).setCell ⟨sb, 5, none⟩ (.int .i64 L1)).setCell ⟨sb, 6, none⟩ (.int .i64 L2)).cell? ⟨sb, 3, none⟩ = some (.int .i64 g2) ∧ (((p4w1.setCell ⟨sb, 4, none⟩ (.int .i64 L0)).setCell ⟨sb, 5, none⟩ (.int .i64 L1)).setCell ⟨sb, 6, none⟩ (.int .i64 L2)).cell? ⟨sb, 4, none⟩ = some (.int .i64 L0) ∧ (((p4w1.setCell ⟨sb, 4, none⟩ (.int .i64 L0)).setCell ⟨sb, 5, none⟩ (.int .i64 L1)).setCell ⟨sb, 6, none⟩ (.int .i64 L2)).cell? ⟨sb, 5, none⟩ = some (.int .i64 L1) ∧ (((p4w1.setCell ⟨sb, 4, none⟩ (.int .i64 L0)).setCell ⟨sb, 5, none⟩ (.int .i64 L1)).setCell ⟨sb, 6, none⟩ (.int .i64 L2)).cell? ⟨sb, 6, none⟩ = some (.int .i64 L2) ∧ (((p4w1.setCell ⟨sb, 4, none⟩ (.int .i64 L0)).setCell ⟨sb, 5, none⟩ (.int .i64 L1)).setCell ⟨sb, 6, none⟩ (.int .i64 L2)).cell? ⟨sb, 7, none⟩ = some (.int .i64 day) ∧ (((p4w1.setCell ⟨sb, 4, none⟩ (.int .i64 L0)).setCell ⟨sb, 5, none⟩ (.int .i64 L1)).setCell ⟨sb, 6, none⟩ (.int .i64 L2)).cell? ⟨tb, 0, none⟩ = some (.int .i64 X) ∧ (((p4w1.setCell ⟨sb, 4, none⟩ (.int .i64 L0)).setCell ⟨sb, 5, none⟩ (.int .i64 L1)).setCell ⟨sb, 6, none⟩ (.int .i64 L2)).cell? ⟨tb, 1, none⟩ = some (.int .i64 Y) ∧ (((p4w1.setCell ⟨sb, 4, none⟩ (.int .i64 L0)).setCell ⟨sb, 5, none⟩ (.int .i64 L1)).setCell ⟨sb, 6, none⟩ (.int .i64 L2)).cell? ⟨tb, 2, none⟩ = some (.int .i64 Z) := by refine ⟨?_, ?_, ?_, ?_, ?_, ?_, ?_, ?_, ?_, ?_, ?_, ?_, ?_, ?_, ?_, ?_, ?_, ?_, ?_, ?_, ?_, ?_⟩ <;> (simp [go_sem, cP, *])
      obtain ⟨y4f1, y4f2, y4f3⟩ : (∀ j, (((p4w1.setCell ⟨sb, 4, none⟩ (.int .i64 L0)).setCell ⟨sb, 5, none⟩ (.int .i64 L1)).setCell ⟨sb, 6, none⟩ (.int .i64 L2)).frozen? ⟨ib, j, none⟩ = false) ∧ (∀ j, (((p4w1.setCell ⟨sb, 4, none⟩ (.int .i64 L0)).setCell ⟨sb, 5, none⟩ (.int .i64 L1)).setCell ⟨sb, 6, none⟩ (.int .i64 L2)).frozen? ⟨sb, j, none⟩ = false) ∧ (∀ j, (((p4w1.setCell ⟨sb, 4, none⟩ (.int .i64 L0)).setCell ⟨sb, 5, none⟩ (.int .i64 L1)).setCell ⟨sb, 6, none⟩ (.int .i64 L2)).frozen? ⟨tb, j, none⟩ = false) := by refine ⟨?_, ?_, ?_⟩ <;> (intro j; simp [go_sem, *])
      have hzy4 : (((p4w1.setCell ⟨sb, 4, none⟩ (.int .i64 L0)).setCell ⟨sb, 5, none⟩ (.int .i64 L1)).setCell ⟨sb, 6, none⟩ (.int .i64 L2)).heap.size = p4w1.heap.size := by simp
      have hDy4 : BelowD sb ib w.heap.size w (((p4w1.setCell ⟨sb, 4, none⟩ (.int .i64 L0)).setCell ⟨sb, 5, none⟩ (.int .i64 L1)).setCell ⟨sb, 6, none⟩ (.int .i64 L2)) := ((((hDy3.trans (BelowD.of hBp41 (by omega)))).set sb (4) _ (Or.inl rfl)).set sb (5) _ (Or.inl rfl)).set sb (6) _ (Or.inl rfl)
      have hVy4 : ∀ q, q ≠ qa * 3 → q ≠ qa * 3 + 1 → q ≠ qa * 3 + 2 → (((p4w1.setCell ⟨sb, 4, none⟩ (.int .i64 L0)).setCell ⟨sb, 5, none⟩ (.int .i64 L1)).setCell ⟨sb, 6, none⟩ (.int .i64 L2)).cell? ⟨ib, q, none⟩ = w.cell? ⟨ib, q, none⟩ := fun q u0 u1 u2 => by rw [sblk (by first | assumption | omega), sblk (by first | assumption | omega), sblk (by first | assumption | omega)]; exact ((hBp41.cell (p := ⟨ib, q, none⟩) (by show ib < _; omega)).trans (hVy3 q u0 u1 u2))
      have zsy4 : y3.heap.size ≤ (((p4w1.setCell ⟨sb, 4, none⟩ (.int .i64 L0)).setCell ⟨sb, 5, none⟩ (.int .i64 L1)).setCell ⟨sb, 6, none⟩ (.int .i64 L2)).heap.size := by rw [hzy4]; exact hBp41.size
      clear p41A0 p41A1 p41A2 p41A3 p41A4 p41A5 p41A6 p41A7 p41B0 p41B1 p41B2 p41C0 p41C1 p41C2 p41C3 p41C4 p41C5 p41C6 p41C7 p41D0 p41D1 p41D2 p41f1 p41f2 p41f3 p41o0 p41n0 p41o1 p41n1 p41o2 p41n2 p41o3 p41n3 hBp41
      generalize hWy4 : ((p4w1.setCell ⟨sb, 4, none⟩ (.int .i64 L0)).setCell ⟨sb, 5, none⟩ (.int .i64 L1)).setCell ⟨sb, 6, none⟩ (.int .i64 L2) = y4 at *
      clear hWy4
      have q1y4 : w.heap.size < y4.heap.size := by omega
      have q2y4 : ib < y4.heap.size := by omega
      have q3y4 : sb < y4.heap.size := by omega
      have q4y4 : tb < y4.heap.size := by omega
      have q5y4 : v < y4.heap.size := by omega
      have hr : Hid ((0 : Int) = E) := Lib.hid (by rw [← hE.out]; unfold pos2; rw [if_neg (by omega), if_neg (by omega)])
      go_wp2
      go_ret
      exact ⟨ret_int hr.out, Or.inr ⟨hr.out.symm, (by simp [go_sem, *]), (by simp [go_sem, *]), (by simp [go_sem, *]), (by simp [go_sem, *]), (by simp [go_sem, *]), (by simp [go_sem, *]), (by simp [go_sem, *]), (by simp [go_sem, *]), (by simp [go_sem, *]), (by simp [go_sem, *]), (by simp [go_sem, *]), fun q u0 u1 u2 => (sblk (by first | assumption | omega)).trans (hVy4 q u0 u1 u2), (fun j => by simp [go_sem, *]), (fun j => by simp [go_sem, *]), hDy4.set sb 7 _ (Or.inl rfl)⟩⟩
end Go.Proofs.Ytjkhjjmmkdfjmaa
