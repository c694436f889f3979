import Derived.Test.YtjkhjjmmkdfjmaaGTRefCt
import Derived.Test.YtjkhjjmmkdfjmaaGTAdd0
import Derived.Test.YtjkhjjmmkdfjmaaGTRm
import Derived.Outline
namespace Go.Proofs.Ytjkhjjmmkdfjmaa
open Go.ChangeShapes Go.WideShapes Go.ChangeAt Go.RowKit
set_option linter.unusedVariables false
set_option linter.unusedSimpArgs false
attribute [local go_sem ↓] Go.wp_at_zero Go.wp_at_succ
set_option maxHeartbeats 8000000 in
set_option maxRecDepth 100000 in
theorem rent_I (sb ib v of n ic cap qa qb : Nat) (L : List Ve) (d o h am g0 g1 g2 k0 k1 k2 day va a0 a1 a2 SA vo mo b0 b1 b2 SB E X Y Z c0 c1 c2 G0 G1 G2 : Int) (fr tz : ByteArray) (pu : Bool) (w : World) (hn : Hid (n = L.length)) (hl : n ≤ 1000000) (hL : Hid (SlRows veV 3 w (some ⟨v, of, none⟩) L)) (r0 : w.cell? ⟨sb, 0, none⟩ = some (.slice (some ⟨ib, 0, none⟩) n ic)) (r1 : w.cell? ⟨sb, 1, none⟩ = some (.int .i64 g0)) (r2 : w.cell? ⟨sb, 2, none⟩ = some (.int .i64 g1)) (r3 : w.cell? ⟨sb, 3, none⟩ = some (.int .i64 g2)) (r4 : w.cell? ⟨sb, 4, none⟩ = some (.int .i64 k0)) (r5 : w.cell? ⟨sb, 5, none⟩ = some (.int .i64 k1)) (r6 : w.cell? ⟨sb, 6, none⟩ = some (.int .i64 k2)) (r7 : w.cell? ⟨sb, 7, none⟩ = some (.int .i64 day))  (xb0 : w.cell? ⟨ib, qb * 3, none⟩ = some (.int .i64 b0)) (xb1 : w.cell? ⟨ib, qb * 3 + 1, none⟩ = some (.int .i64 b1)) (xb2 : w.cell? ⟨ib, qb * 3 + 2, none⟩ = some (.int .i64 b2)) (ve0 : w.cell? ⟨v, of + qb * 3 + 1, none⟩ = some (.int .i64 vo)) (ve1 : w.cell? ⟨v, of + qb * 3 + 2, none⟩ = some (.int .i64 mo)) (vf : ∀ j, w.frozen? ⟨ib, j, none⟩ = false) (rf : ∀ j, w.frozen? ⟨sb, j, none⟩ = false) (li : ib < w.heap.size) (ls : sb < w.heap.size) (lv : v < w.heap.size) (nsi : sb ≠ ib) (nsv : sb ≠ v) (niv : ib ≠ v) (nic : n ≤ ic) (hF : Hid (fndV ⟨#[]⟩ L = -1)) (hqb : qb < n) (hT : Hid (fndV tz L = qb)) (hG : Hid (gasE o h = 0)) (am1 : 1 ≤ am) (am2 : am ≤ 1000000000) (hcB : Hid (conB b0 b1 b2 = true)) (hSB : Hid (b0 + b1 + b2 = SB)) (v1 : 1 ≤ vo) (v2 : vo ≤ 1000000000) (m1 : 1 ≤ mo) (m2 : mo ≤ 1000000000) (hE : Hid (pos0 d day am SB vo mo = E)) (x1 : Hid (am * o / 1000 = X)) (x2 : Hid (am * h / 1000 = Y)) (x3 : Hid (am - (X + Y) = Z)) (g0n : 0 ≤ g0) (g0m : g0 ≤ 900000000000) (g1n : 0 ≤ g1) (g1m : g1 ≤ 900000000000) (g2n : 0 ≤ g2) (g2m : g2 ≤ 900000000000) (hC : Hid (b0 + X = c0 ∧ b1 + Y = c1 ∧ b2 + Z = c2)) (hI : Hid (g0 + X = G0 ∧ g1 + Y = G1 ∧ g2 + Z = G2)) : Calls Try.prog 72 #[.slice (some ⟨v, of, none⟩) n cap, .pointer (some ⟨sb, 0, none⟩), .agg #[.int .i64 0, .int .i64 d, .string ⟨#[]⟩, .string tz, .int .i64 o, .int .i64 h, .int .i64 am, .bool pu]] w fun e w' => e = .returned (.int .i64 E) ∧ ((¬ E = 0 ∧ Below w.heap.size w w') ∨ (E = 0 ∧ w'.cell? ⟨sb, 0, none⟩ = some (.slice (some ⟨ib, 0, none⟩) n ic) ∧ w'.cell? ⟨sb, 1, none⟩ = some (.int .i64 G0) ∧ w'.cell? ⟨sb, 2, none⟩ = some (.int .i64 G1) ∧ w'.cell? ⟨sb, 3, none⟩ = some (.int .i64 G2) ∧ w'.cell? ⟨sb, 4, none⟩ = some (.int .i64 k0) ∧ w'.cell? ⟨sb, 5, none⟩ = some (.int .i64 k1) ∧ w'.cell? ⟨sb, 6, none⟩ = some (.int .i64 k2) ∧ w'.cell? ⟨sb, 7, none⟩ = some (.int .i64 d) ∧ w'.cell? ⟨ib, qb * 3, none⟩ = some (.int .i64 c0) ∧ w'.cell? ⟨ib, qb * 3 + 1, none⟩ = some (.int .i64 c1) ∧ w'.cell? ⟨ib, qb * 3 + 2, none⟩ = some (.int .i64 c2) ∧ (∀ q, q ≠ qb * 3 → q ≠ qb * 3 + 1 → q ≠ qb * 3 + 2 → w'.cell? ⟨ib, q, none⟩ = w.cell? ⟨ib, q, none⟩) ∧ (∀ j, w'.frozen? ⟨ib, j, none⟩ = false) ∧ (∀ j, w'.frozen? ⟨sb, j, none⟩ = false) ∧ BelowD sb ib w.heap.size w w')) := by
  have o1 : ib ≠ w.heap.size := by omega
  have o2 : sb ≠ w.heap.size := by omega
  have o3 : ib < w.heap.size + 1 := by omega
  have o4 : sb < w.heap.size + 1 := by omega
  have o5 : v ≠ w.heap.size := by omega
  have o6 : v < w.heap.size + 1 := by omega
  have nis : ib ≠ sb := fun h => nsi h.symm
  have nvs : v ≠ sb := fun h => nsv h.symm
  have nvi : v ≠ ib := fun h => niv h.symm
  have jb1 : (0 : Int) ≤ (qb : Int) := by omega
  have jb2 : (qb : Int) < (n : Int) := by omega
  have jb3 : ¬ (qb : Int) < 0 := by omega
  obtain ⟨cb0, cb1, cb2, cb3⟩ := conB_iff.1 hcB.out
  have sb0 : 0 ≤ SB ∧ SB ≤ 1000000000 := by have := hSB.out; omega
  obtain ⟨sb0, sb1⟩ := sb0
  have mvo : mo * vo ≤ 1000000000 * 1000000000 := Int.mul_le_mul m2 v2 (by omega) (by omega)
  have mvo0 : 0 ≤ mo * vo := Int.mul_nonneg (by omega) (by omega)
  have w1 : IntKind.i64.wrap (SB + am) = SB + am := IntWalk.i64_in _ (by omega)
  have w2 : IntKind.i64.wrap (1000 * (SB + am)) = 1000 * (SB + am) := IntWalk.i64_in _ (by omega)
  have w3 : IntKind.i64.wrap (mo * vo) = mo * vo := IntWalk.i64_in _ (by omega)
  obtain ⟨-, -, -, -, -, -, xe, X0, Y0, Z0, X1, Y1, Z1⟩ := bri_math hG.out am1 am2 x1.out x2.out x3.out
  go_enter Try.func72, Try.ntmps72
  go_upto_region 1 with (fail)
  refine wp_region_held_drew (S := (fun w' => w'.cell? ⟨w.heap.size, 0, none⟩ = some (.int .i64 0) ∧ w'.cell? ⟨w.heap.size, 1, none⟩ = some (.int .i64 d) ∧ w'.cell? ⟨w.heap.size, 2, none⟩ = some (.string ⟨#[]⟩) ∧ w'.cell? ⟨w.heap.size, 3, none⟩ = some (.string tz) ∧ w'.cell? ⟨w.heap.size, 4, none⟩ = some (.int .i64 o) ∧ w'.cell? ⟨w.heap.size, 5, none⟩ = some (.int .i64 h) ∧ w'.cell? ⟨w.heap.size, 6, none⟩ = some (.int .i64 am) ∧ w'.cell? ⟨w.heap.size, 7, none⟩ = some (.bool pu))) (by kernel_rfl) (by simp [go_sem, cP, *]) (fun hHeld => ?_)
  refine tkA 0 11 rfl ?_
  refine tkA 1 12 rfl ?_
  refine tkA 2 13 rfl ?_
  refine tkA 4 15 rfl ?_
  refine tkA 5 16 rfl ?_
  refine tkA 6 17 rfl ?_
  refine rdA 3 rfl (fun K hK => ?_)
  go_simp
  refine (refFind_b L (some ⟨v, of, none⟩) cap n ⟨#[]⟩ (-1) _ hn hl (hL.out.below (by first | exact ((Below.refl _ _).alloc (Nat.le_refl _) _) | exact (((Below.refl _ _).alloc (Nat.le_refl _) _)).drew)) hF).mono ?_
  rintro e xw1 ⟨rfl, hbx1⟩
  have zx1 := hbx1.size
  try simp at zx1
  obtain ⟨x1A0, x1A1, x1A2, x1A3, x1A4, x1A5, x1A6, x1A7, x1B0, x1B1, x1B2, x1C0, x1C1, x1C2, x1C3, x1C4, x1C5, x1C6, x1C7, x1D0, x1D1⟩ : xw1.cell? ⟨w.heap.size, 0, none⟩ = some (.int .i64 0) ∧ xw1.cell? ⟨w.heap.size, 1, none⟩ = some (.int .i64 d) ∧ xw1.cell? ⟨w.heap.size, 2, none⟩ = some (.string ⟨#[]⟩) ∧ xw1.cell? ⟨w.heap.size, 3, none⟩ = some (.string tz) ∧ xw1.cell? ⟨w.heap.size, 4, none⟩ = some (.int .i64 o) ∧ xw1.cell? ⟨w.heap.size, 5, none⟩ = some (.int .i64 h) ∧ xw1.cell? ⟨w.heap.size, 6, none⟩ = some (.int .i64 am) ∧ xw1.cell? ⟨w.heap.size, 7, none⟩ = some (.bool pu) ∧ xw1.cell? ⟨ib, qb * 3, none⟩ = some (.int .i64 b0) ∧ xw1.cell? ⟨ib, qb * 3 + 1, none⟩ = some (.int .i64 b1) ∧ xw1.cell? ⟨ib, qb * 3 + 2, none⟩ = some (.int .i64 b2) ∧ xw1.cell? ⟨sb, 0, none⟩ = some (.slice (some ⟨ib, 0, none⟩) n ic) ∧ xw1.cell? ⟨sb, 1, none⟩ = some (.int .i64 g0) ∧ xw1.cell? ⟨sb, 2, none⟩ = some (.int .i64 g1) ∧ xw1.cell? ⟨sb, 3, none⟩ = some (.int .i64 g2) ∧ xw1.cell? ⟨sb, 4, none⟩ = some (.int .i64 k0) ∧ xw1.cell? ⟨sb, 5, none⟩ = some (.int .i64 k1) ∧ xw1.cell? ⟨sb, 6, none⟩ = some (.int .i64 k2) ∧ xw1.cell? ⟨sb, 7, none⟩ = some (.int .i64 day) ∧ xw1.cell? ⟨v, of + qb * 3 + 1, none⟩ = some (.int .i64 vo) ∧ xw1.cell? ⟨v, of + qb * 3 + 2, none⟩ = some (.int .i64 mo) := by refine ⟨?_, ?_, ?_, ?_, ?_, ?_, ?_, ?_, ?_, ?_, ?_, ?_, ?_, ?_, ?_, ?_, ?_, ?_, ?_, ?_, ?_⟩ <;> (rw [bc1 hbx1]; simp [go_sem, cP, *])
  obtain ⟨x1f1, x1f2⟩ : (∀ j, xw1.frozen? ⟨ib, j, none⟩ = false) ∧ (∀ j, xw1.frozen? ⟨sb, j, none⟩ = false) := by refine ⟨?_, ?_⟩ <;> (intro j; rw [bc2 hbx1]; simp [go_sem, *])
  obtain ⟨x1o0, x1n0, x1t0_0, x1o1, x1n1, x1t1_0, x1o2, x1n2, x1t2_0, x1o3, x1n3, x1t3_0⟩ : w.heap.size < xw1.heap.size ∧ xw1.heap.size ≠ w.heap.size ∧ w.heap.size < xw1.heap.size + 1 ∧ ib < xw1.heap.size ∧ xw1.heap.size ≠ ib ∧ ib < xw1.heap.size + 1 ∧ sb < xw1.heap.size ∧ xw1.heap.size ≠ sb ∧ sb < xw1.heap.size + 1 ∧ v < xw1.heap.size ∧ xw1.heap.size ≠ v ∧ v < xw1.heap.size + 1 := by refine ⟨?_, ?_, ?_, ?_, ?_, ?_, ?_, ?_, ?_, ?_, ?_, ?_⟩ <;> omega
  have hBx1 : Below w.heap.size w xw1 := belA
  clear hbx1 
  go_wp2_with fail
  refine hK.out _ _ (by simp [go_sem, cP, *]) (fun hHeld => ?_)
  clear hK K
  try simp only [Act.put, sA, sB, sC]
  refine rdA 7 rfl (fun K hK => ?_)
  go_simp
  refine (refFind_b L (some ⟨v, of, none⟩) cap n tz qb _ hn hl (hL.out.below (by first | exact hBx1 | exact (hBx1).drew)) hT).mono ?_
  rintro e xw2 ⟨rfl, hbx2⟩
  have zx2 := hbx2.size
  try simp at zx2
  obtain ⟨x2A0, x2A1, x2A2, x2A3, x2A4, x2A5, x2A6, x2A7, x2B0, x2B1, x2B2, x2C0, x2C1, x2C2, x2C3, x2C4, x2C5, x2C6, x2C7, x2D0, x2D1⟩ : xw2.cell? ⟨w.heap.size, 0, none⟩ = some (.int .i64 0) ∧ xw2.cell? ⟨w.heap.size, 1, none⟩ = some (.int .i64 d) ∧ xw2.cell? ⟨w.heap.size, 2, none⟩ = some (.string ⟨#[]⟩) ∧ xw2.cell? ⟨w.heap.size, 3, none⟩ = some (.string tz) ∧ xw2.cell? ⟨w.heap.size, 4, none⟩ = some (.int .i64 o) ∧ xw2.cell? ⟨w.heap.size, 5, none⟩ = some (.int .i64 h) ∧ xw2.cell? ⟨w.heap.size, 6, none⟩ = some (.int .i64 am) ∧ xw2.cell? ⟨w.heap.size, 7, none⟩ = some (.bool pu) ∧ xw2.cell? ⟨ib, qb * 3, none⟩ = some (.int .i64 b0) ∧ xw2.cell? ⟨ib, qb * 3 + 1, none⟩ = some (.int .i64 b1) ∧ xw2.cell? ⟨ib, qb * 3 + 2, none⟩ = some (.int .i64 b2) ∧ xw2.cell? ⟨sb, 0, none⟩ = some (.slice (some ⟨ib, 0, none⟩) n ic) ∧ xw2.cell? ⟨sb, 1, none⟩ = some (.int .i64 g0) ∧ xw2.cell? ⟨sb, 2, none⟩ = some (.int .i64 g1) ∧ xw2.cell? ⟨sb, 3, none⟩ = some (.int .i64 g2) ∧ xw2.cell? ⟨sb, 4, none⟩ = some (.int .i64 k0) ∧ xw2.cell? ⟨sb, 5, none⟩ = some (.int .i64 k1) ∧ xw2.cell? ⟨sb, 6, none⟩ = some (.int .i64 k2) ∧ xw2.cell? ⟨sb, 7, none⟩ = some (.int .i64 day) ∧ xw2.cell? ⟨v, of + qb * 3 + 1, none⟩ = some (.int .i64 vo) ∧ xw2.cell? ⟨v, of + qb * 3 + 2, none⟩ = some (.int .i64 mo) := by refine ⟨?_, ?_, ?_, ?_, ?_, ?_, ?_, ?_, ?_, ?_, ?_, ?_, ?_, ?_, ?_, ?_, ?_, ?_, ?_, ?_, ?_⟩ <;> (rw [bc1 hbx2]; simp [go_sem, cP, *])
  obtain ⟨x2f1, x2f2⟩ : (∀ j, xw2.frozen? ⟨ib, j, none⟩ = false) ∧ (∀ j, xw2.frozen? ⟨sb, j, none⟩ = false) := by refine ⟨?_, ?_⟩ <;> (intro j; rw [bc2 hbx2]; simp [go_sem, *])
  obtain ⟨x2o0, x2n0, x2t0_0, x2o1, x2n1, x2t1_0, x2o2, x2n2, x2t2_0, x2o3, x2n3, x2t3_0⟩ : w.heap.size < xw2.heap.size ∧ xw2.heap.size ≠ w.heap.size ∧ w.heap.size < xw2.heap.size + 1 ∧ ib < xw2.heap.size ∧ xw2.heap.size ≠ ib ∧ ib < xw2.heap.size + 1 ∧ sb < xw2.heap.size ∧ xw2.heap.size ≠ sb ∧ sb < xw2.heap.size + 1 ∧ v < xw2.heap.size ∧ xw2.heap.size ≠ v ∧ v < xw2.heap.size + 1 := by refine ⟨?_, ?_, ?_, ?_, ?_, ?_, ?_, ?_, ?_, ?_, ?_, ?_⟩ <;> omega
  have hBx2 : Below w.heap.size w xw2 := belA
  clear hbx2 x1A0 x1A1 x1A2 x1A3 x1A4 x1A5 x1A6 x1A7 x1B0 x1B1 x1B2 x1C0 x1C1 x1C2 x1C3 x1C4 x1C5 x1C6 x1C7 x1D0 x1D1 x1f1 x1f2 x1o0 x1n0 x1t0_0 x1o1 x1n1 x1t1_0 x1o2 x1n2 x1t2_0 x1o3 x1n3 x1t3_0 hBx1
  go_wp2_with fail
  refine hK.out _ _ (by simp [go_sem, cP, *]) (fun hHeld => ?_)
  clear hK K
  try simp only [Act.put, sA, sB, sC]
  refine tkA 8 7 rfl ?_
  refine tkA 9 8 rfl ?_
  refine wpAnyH_done (by kernel_rfl) ?_ _
  go_upto_region 4 with (fail)
  refine wp_region_held_drew (S := (fun w' => w'.cell? ⟨w.heap.size, 0, none⟩ = some (.int .i64 0) ∧ w'.cell? ⟨w.heap.size, 1, none⟩ = some (.int .i64 d) ∧ w'.cell? ⟨w.heap.size, 2, none⟩ = some (.string ⟨#[]⟩) ∧ w'.cell? ⟨w.heap.size, 3, none⟩ = some (.string tz) ∧ w'.cell? ⟨w.heap.size, 4, none⟩ = some (.int .i64 o) ∧ w'.cell? ⟨w.heap.size, 5, none⟩ = some (.int .i64 h) ∧ w'.cell? ⟨w.heap.size, 6, none⟩ = some (.int .i64 am) ∧ w'.cell? ⟨w.heap.size, 7, none⟩ = some (.bool pu) ∧ w'.cell? ⟨sb, 7, none⟩ = some (.int .i64 day))) (by kernel_rfl) (by simp [go_sem, cP, *]) (fun hHeld => ?_)
  refine tkA 0 35 rfl ?_
  refine tkA 1 36 rfl ?_
  refine tkA 2 37 rfl ?_
  refine tkA 3 38 rfl ?_
  refine tkA 4 39 rfl ?_
  refine tkA 5 40 rfl ?_
  refine tkA 6 41 rfl ?_
  refine wpAnyH_done (by kernel_rfl) ?_ _
  by_cases hd : d < day
  · have hr : Hid ((9 : Int) = E) := Lib.hid (by rw [← hE.out]; unfold pos0; rw [if_pos hd])
    go_wp2
    go_ret
    exact ⟨ret_int hr.out, Or.inl ⟨by have := hr.out; omega, belA⟩⟩
  · skip
    go_wp2_with fail
    refine (refPure_any o h am X Y Z _ hG am1 am2 x1 x2 x3).mono ?_
    rintro e xw3 ⟨rfl, hbx3⟩
    have zx3 := hbx3.size
    try simp at zx3
    obtain ⟨x3A0, x3A1, x3A2, x3A3, x3A4, x3A5, x3A6, x3A7, x3B0, x3B1, x3B2, x3C0, x3C1, x3C2, x3C3, x3C4, x3C5, x3C6, x3C7, x3D0, x3D1⟩ : xw3.cell? ⟨w.heap.size, 0, none⟩ = some (.int .i64 0) ∧ xw3.cell? ⟨w.heap.size, 1, none⟩ = some (.int .i64 d) ∧ xw3.cell? ⟨w.heap.size, 2, none⟩ = some (.string ⟨#[]⟩) ∧ xw3.cell? ⟨w.heap.size, 3, none⟩ = some (.string tz) ∧ xw3.cell? ⟨w.heap.size, 4, none⟩ = some (.int .i64 o) ∧ xw3.cell? ⟨w.heap.size, 5, none⟩ = some (.int .i64 h) ∧ xw3.cell? ⟨w.heap.size, 6, none⟩ = some (.int .i64 am) ∧ xw3.cell? ⟨w.heap.size, 7, none⟩ = some (.bool pu) ∧ xw3.cell? ⟨ib, qb * 3, none⟩ = some (.int .i64 b0) ∧ xw3.cell? ⟨ib, qb * 3 + 1, none⟩ = some (.int .i64 b1) ∧ xw3.cell? ⟨ib, qb * 3 + 2, none⟩ = some (.int .i64 b2) ∧ xw3.cell? ⟨sb, 0, none⟩ = some (.slice (some ⟨ib, 0, none⟩) n ic) ∧ xw3.cell? ⟨sb, 1, none⟩ = some (.int .i64 g0) ∧ xw3.cell? ⟨sb, 2, none⟩ = some (.int .i64 g1) ∧ xw3.cell? ⟨sb, 3, none⟩ = some (.int .i64 g2) ∧ xw3.cell? ⟨sb, 4, none⟩ = some (.int .i64 k0) ∧ xw3.cell? ⟨sb, 5, none⟩ = some (.int .i64 k1) ∧ xw3.cell? ⟨sb, 6, none⟩ = some (.int .i64 k2) ∧ xw3.cell? ⟨sb, 7, none⟩ = some (.int .i64 day) ∧ xw3.cell? ⟨v, of + qb * 3 + 1, none⟩ = some (.int .i64 vo) ∧ xw3.cell? ⟨v, of + qb * 3 + 2, none⟩ = some (.int .i64 mo) := by refine ⟨?_, ?_, ?_, ?_, ?_, ?_, ?_, ?_, ?_, ?_, ?_, ?_, ?_, ?_, ?_, ?_, ?_, ?_, ?_, ?_, ?_⟩ <;> (rw [bc1 hbx3]; simp [go_sem, cP, *])
    obtain ⟨x3f1, x3f2⟩ : (∀ j, xw3.frozen? ⟨ib, j, none⟩ = false) ∧ (∀ j, xw3.frozen? ⟨sb, j, none⟩ = false) := by refine ⟨?_, ?_⟩ <;> (intro j; rw [bc2 hbx3]; simp [go_sem, *])
    obtain ⟨x3o0, x3n0, x3t0_0, x3o1, x3n1, x3t1_0, x3o2, x3n2, x3t2_0, x3o3, x3n3, x3t3_0⟩ : w.heap.size < xw3.heap.size ∧ xw3.heap.size ≠ w.heap.size ∧ w.heap.size < xw3.heap.size + 1 ∧ ib < xw3.heap.size ∧ xw3.heap.size ≠ ib ∧ ib < xw3.heap.size + 1 ∧ sb < xw3.heap.size ∧ xw3.heap.size ≠ sb ∧ sb < xw3.heap.size + 1 ∧ v < xw3.heap.size ∧ xw3.heap.size ≠ v ∧ v < xw3.heap.size + 1 := by refine ⟨?_, ?_, ?_, ?_, ?_, ?_, ?_, ?_, ?_, ?_, ?_, ?_⟩ <;> omega
    have hBx3 : Below w.heap.size w xw3 := belA
    clear hbx3 x2A0 x2A1 x2A2 x2A3 x2A4 x2A5 x2A6 x2A7 x2B0 x2B1 x2B2 x2C0 x2C1 x2C2 x2C3 x2C4 x2C5 x2C6 x2C7 x2D0 x2D1 x2f1 x2f2 x2o0 x2n0 x2t0_0 x2o1 x2n1 x2t1_0 x2o2 x2n2 x2t2_0 x2o3 x2n3 x2t3_0 hBx2
    go_upto_region 12 with (fail)
    obtain ⟨y0A0, y0A1, y0A2, y0A3, y0A4, y0A5, y0A6, y0A7, y0B0, y0B1, y0B2, y0C0, y0C1, y0C2, y0C3, y0C4, y0C5, y0C6, y0C7, y0D0, y0D1, y0D2, y0E0, y0E1⟩ : (xw3.alloc (.cells #[.int .i64 X, .int .i64 Y, .int .i64 Z] 49)).cell? ⟨w.heap.size, 0, none⟩ = some (.int .i64 0) ∧ (xw3.alloc (.cells #[.int .i64 X, .int .i64 Y, .int .i64 Z] 49)).cell? ⟨w.heap.size, 1, none⟩ = some (.int .i64 d) ∧ (xw3.alloc (.cells #[.int .i64 X, .int .i64 Y, .int .i64 Z] 49)).cell? ⟨w.heap.size, 2, none⟩ = some (.string ⟨#[]⟩) ∧ (xw3.alloc (.cells #[.int .i64 X, .int .i64 Y, .int .i64 Z] 49)).cell? ⟨w.heap.size, 3, none⟩ = some (.string tz) ∧ (xw3.alloc (.cells #[.int .i64 X, .int .i64 Y, .int .i64 Z] 49)).cell? ⟨w.heap.size, 4, none⟩ = some (.int .i64 o) ∧ (xw3.alloc (.cells #[.int .i64 X, .int .i64 Y, .int .i64 Z] 49)).cell? ⟨w.heap.size, 5, none⟩ = some (.int .i64 h) ∧ (xw3.alloc (.cells #[.int .i64 X, .int .i64 Y, .int .i64 Z] 49)).cell? ⟨w.heap.size, 6, none⟩ = some (.int .i64 am) ∧ (xw3.alloc (.cells #[.int .i64 X, .int .i64 Y, .int .i64 Z] 49)).cell? ⟨w.heap.size, 7, none⟩ = some (.bool pu) ∧ (xw3.alloc (.cells #[.int .i64 X, .int .i64 Y, .int .i64 Z] 49)).cell? ⟨ib, qb * 3, none⟩ = some (.int .i64 b0) ∧ (xw3.alloc (.cells #[.int .i64 X, .int .i64 Y, .int .i64 Z] 49)).cell? ⟨ib, qb * 3 + 1, none⟩ = some (.int .i64 b1) ∧ (xw3.alloc (.cells #[.int .i64 X, .int .i64 Y, .int .i64 Z] 49)).cell? ⟨ib, qb * 3 + 2, none⟩ = some (.int .i64 b2) ∧ (xw3.alloc (.cells #[.int .i64 X, .int .i64 Y, .int .i64 Z] 49)).cell? ⟨sb, 0, none⟩ = some (.slice (some ⟨ib, 0, none⟩) n ic) ∧ (xw3.alloc (.cells #[.int .i64 X, .int .i64 Y, .int .i64 Z] 49)).cell? ⟨sb, 1, none⟩ = some (.int .i64 g0) ∧ (xw3.alloc (.cells #[.int .i64 X, .int .i64 Y, .int .i64 Z] 49)).cell? ⟨sb, 2, none⟩ = some (.int .i64 g1) ∧ (xw3.alloc (.cells #[.int .i64 X, .int .i64 Y, .int .i64 Z] 49)).cell? ⟨sb, 3, none⟩ = some (.int .i64 g2) ∧ (xw3.alloc (.cells #[.int .i64 X, .int .i64 Y, .int .i64 Z] 49)).cell? ⟨sb, 4, none⟩ = some (.int .i64 k0) ∧ (xw3.alloc (.cells #[.int .i64 X, .int .i64 Y, .int .i64 Z] 49)).cell? ⟨sb, 5, none⟩ = some (.int .i64 k1) ∧ (xw3.alloc (.cells #[.int .i64 X, .int .i64 Y, .int .i64 Z] 49)).cell? ⟨sb, 6, none⟩ = some (.int .i64 k2) ∧ (xw3.alloc (.cells #[.int .i64 X, .int .i64 Y, .int .i64 Z] 49)).cell? ⟨sb, 7, none⟩ = some (.int .i64 day) ∧ (xw3.alloc (.cells #[.int .i64 X, .int .i64 Y, .int .i64 Z] 49)).cell? ⟨xw3.heap.size, 0, none⟩ = some (.int .i64 X) ∧ (xw3.alloc (.cells #[.int .i64 X, .int .i64 Y, .int .i64 Z] 49)).cell? ⟨xw3.heap.size, 1, none⟩ = some (.int .i64 Y) ∧ (xw3.alloc (.cells #[.int .i64 X, .int .i64 Y, .int .i64 Z] 49)).cell? ⟨xw3.heap.size, 2, none⟩ = some (.int .i64 Z) ∧ (xw3.alloc (.cells #[.int .i64 X, .int .i64 Y, .int .i64 Z] 49)).cell? ⟨v, of + qb * 3 + 1, none⟩ = some (.int .i64 vo) ∧ (xw3.alloc (.cells #[.int .i64 X, .int .i64 Y, .int .i64 Z] 49)).cell? ⟨v, of + qb * 3 + 2, none⟩ = some (.int .i64 mo) := by refine ⟨?_, ?_, ?_, ?_, ?_, ?_, ?_, ?_, ?_, ?_, ?_, ?_, ?_, ?_, ?_, ?_, ?_, ?_, ?_, ?_, ?_, ?_, ?_, ?_⟩ <;> (simp [go_sem, cP, *])
    obtain ⟨y0f1, y0f2, y0f3⟩ : (∀ j, (xw3.alloc (.cells #[.int .i64 X, .int .i64 Y, .int .i64 Z] 49)).frozen? ⟨ib, j, none⟩ = false) ∧ (∀ j, (xw3.alloc (.cells #[.int .i64 X, .int .i64 Y, .int .i64 Z] 49)).frozen? ⟨sb, j, none⟩ = false) ∧ (∀ j, (xw3.alloc (.cells #[.int .i64 X, .int .i64 Y, .int .i64 Z] 49)).frozen? ⟨xw3.heap.size, j, none⟩ = false) := by refine ⟨?_, ?_, ?_⟩ <;> (intro j; simp [go_sem, *])
    have hzy0 : (xw3.alloc (.cells #[.int .i64 X, .int .i64 Y, .int .i64 Z] 49)).heap.size = xw3.heap.size + 1 := by simp
    have hBy0 : Below w.heap.size w (xw3.alloc (.cells #[.int .i64 X, .int .i64 Y, .int .i64 Z] 49)) := hBx3.alloc hBx3.size _
    generalize hWy0 : xw3.alloc (.cells #[.int .i64 X, .int .i64 Y, .int .i64 Z] 49) = y0 at *
    clear hWy0
    have ly0 : w.heap.size < xw3.heap.size := by omega
    have ly1 : ib < xw3.heap.size := by omega
    have ly2 : sb < xw3.heap.size := by omega
    have ly3 : v < xw3.heap.size := by omega
    clear x3A0 x3A1 x3A2 x3A3 x3A4 x3A5 x3A6 x3A7 x3B0 x3B1 x3B2 x3C0 x3C1 x3C2 x3C3 x3C4 x3C5 x3C6 x3C7 x3D0 x3D1 x3f1 x3f2 x3o0 x3n0 x3t0_0 x3o1 x3n1 x3t1_0 x3o2 x3n2 x3t2_0 x3o3 x3n3 x3t3_0 hBx3
    generalize htb : xw3.heap.size = tb at *
    clear htb
    have e1 : w.heap.size ≠ tb := by omega
    have e2 : ib ≠ tb := by omega
    have e3 : sb ≠ tb := by omega
    have e4 : tb ≠ w.heap.size := by omega
    have e5 : tb ≠ ib := by omega
    have e6 : tb ≠ sb := by omega
    have e7 : v ≠ tb := by omega
    have e8 : tb ≠ v := by omega
    have q1y0 : w.heap.size < y0.heap.size := by omega
    have q2y0 : ib < y0.heap.size := by omega
    have q3y0 : sb < y0.heap.size := by omega
    have q4y0 : tb < y0.heap.size := by omega
    have q5y0 : v < y0.heap.size := by omega
    refine wp_region_held_drew (S := (fun w' => w'.cell? ⟨w.heap.size, 6, none⟩ = some (.int .i64 am) ∧ w'.cell? ⟨ib, qb * 3, none⟩ = some (.int .i64 b0) ∧ w'.cell? ⟨ib, qb * 3 + 1, none⟩ = some (.int .i64 b1) ∧ w'.cell? ⟨ib, qb * 3 + 2, none⟩ = some (.int .i64 b2) ∧ w'.cell? ⟨sb, 0, none⟩ = some (.slice (some ⟨ib, 0, none⟩) n ic))) (by kernel_rfl) (by simp [go_sem, cP, *]) (fun hHeld => ?_)
    refine tkA 0 74 rfl ?_
    refine tkA 1 75 rfl ?_
    refine tkA 2 76 rfl ?_
    refine tkA 3 77 rfl ?_
    refine tkA 4 78 rfl ?_
    refine tkA 5 79 rfl ?_
    refine tkA 6 80 rfl ?_
    refine tkA 8 82 rfl ?_
    refine tkA 9 83 rfl ?_
    refine rdA 7 rfl (fun K hK => ?_)
    go_simp
    refine (refSum_ok b0 b1 b2 SB _ hcB hSB).mono ?_
    rintro e p1w1 ⟨rfl, hbp11⟩
    have zp11 := hbp11.size
    try simp at zp11
    obtain ⟨p11A0, p11A1, p11A2, p11A3, p11A4, p11A5, p11A6, p11A7, p11B0, p11B1, p11B2, p11C0, p11C1, p11C2, p11C3, p11C4, p11C5, p11C6, p11C7, p11D0, p11D1, p11D2, p11E0, p11E1⟩ : p1w1.cell? ⟨w.heap.size, 0, none⟩ = some (.int .i64 0) ∧ p1w1.cell? ⟨w.heap.size, 1, none⟩ = some (.int .i64 d) ∧ p1w1.cell? ⟨w.heap.size, 2, none⟩ = some (.string ⟨#[]⟩) ∧ p1w1.cell? ⟨w.heap.size, 3, none⟩ = some (.string tz) ∧ p1w1.cell? ⟨w.heap.size, 4, none⟩ = some (.int .i64 o) ∧ p1w1.cell? ⟨w.heap.size, 5, none⟩ = some (.int .i64 h) ∧ p1w1.cell? ⟨w.heap.size, 6, none⟩ = some (.int .i64 am) ∧ p1w1.cell? ⟨w.heap.size, 7, none⟩ = some (.bool pu) ∧ p1w1.cell? ⟨ib, qb * 3, none⟩ = some (.int .i64 b0) ∧ p1w1.cell? ⟨ib, qb * 3 + 1, none⟩ = some (.int .i64 b1) ∧ p1w1.cell? ⟨ib, qb * 3 + 2, none⟩ = some (.int .i64 b2) ∧ p1w1.cell? ⟨sb, 0, none⟩ = some (.slice (some ⟨ib, 0, none⟩) n ic) ∧ p1w1.cell? ⟨sb, 1, none⟩ = some (.int .i64 g0) ∧ p1w1.cell? ⟨sb, 2, none⟩ = some (.int .i64 g1) ∧ p1w1.cell? ⟨sb, 3, none⟩ = some (.int .i64 g2) ∧ p1w1.cell? ⟨sb, 4, none⟩ = some (.int .i64 k0) ∧ p1w1.cell? ⟨sb, 5, none⟩ = some (.int .i64 k1) ∧ p1w1.cell? ⟨sb, 6, none⟩ = some (.int .i64 k2) ∧ p1w1.cell? ⟨sb, 7, none⟩ = some (.int .i64 day) ∧ p1w1.cell? ⟨tb, 0, none⟩ = some (.int .i64 X) ∧ p1w1.cell? ⟨tb, 1, none⟩ = some (.int .i64 Y) ∧ p1w1.cell? ⟨tb, 2, none⟩ = some (.int .i64 Z) ∧ p1w1.cell? ⟨v, of + qb * 3 + 1, none⟩ = some (.int .i64 vo) ∧ p1w1.cell? ⟨v, of + qb * 3 + 2, none⟩ = some (.int .i64 mo) := by refine ⟨?_, ?_, ?_, ?_, ?_, ?_, ?_, ?_, ?_, ?_, ?_, ?_, ?_, ?_, ?_, ?_, ?_, ?_, ?_, ?_, ?_, ?_, ?_, ?_⟩ <;> (rw [bc1 hbp11]; simp [go_sem, cP, *])
    obtain ⟨p11f1, p11f2, p11f3⟩ : (∀ j, p1w1.frozen? ⟨ib, j, none⟩ = false) ∧ (∀ j, p1w1.frozen? ⟨sb, j, none⟩ = false) ∧ (∀ j, p1w1.frozen? ⟨tb, j, none⟩ = false) := by refine ⟨?_, ?_, ?_⟩ <;> (intro j; rw [bc2 hbp11]; simp [go_sem, *])
    obtain ⟨p11o0, p11n0, p11o1, p11n1, p11o2, p11n2, p11o3, p11n3, p11o4, p11n4⟩ : w.heap.size < p1w1.heap.size ∧ p1w1.heap.size ≠ w.heap.size ∧ ib < p1w1.heap.size ∧ p1w1.heap.size ≠ ib ∧ sb < p1w1.heap.size ∧ p1w1.heap.size ≠ sb ∧ tb < p1w1.heap.size ∧ p1w1.heap.size ≠ tb ∧ v < p1w1.heap.size ∧ p1w1.heap.size ≠ v := by refine ⟨?_, ?_, ?_, ?_, ?_, ?_, ?_, ?_, ?_, ?_⟩ <;> omega
    have hBp11 : Below y0.heap.size y0 p1w1 := belA
    clear hbp11 y0A0 y0A1 y0A2 y0A3 y0A4 y0A5 y0A6 y0A7 y0B0 y0B1 y0B2 y0C0 y0C1 y0C2 y0C3 y0C4 y0C5 y0C6 y0C7 y0D0 y0D1 y0D2 y0E0 y0E1 y0f1 y0f2 y0f3 q1y0 q2y0 q3y0 q4y0 q5y0
    go_wp2_with fail
    refine hK.out _ _ (by simp [go_sem, cP, *]) (fun hHeld => ?_)
    clear hK K
    try simp only [Act.put, sA, sB, sC]
    refine tkA 10 84 rfl ?_
    refine tkA 11 10 rfl ?_
    refine wpAnyH_done (by kernel_rfl) ?_ _
    have hBp1w1 : Below w.heap.size w p1w1 := hBy0.trans (hBp11.mono (by omega))
    go_upto_region 13 with (fail)
    refine wp_region_held_drew (S := (fun w' => w'.cell? ⟨v, of + qb * 3 + 1, none⟩ = some (.int .i64 vo) ∧ w'.cell? ⟨v, of + qb * 3 + 2, none⟩ = some (.int .i64 mo))) (by kernel_rfl) (by simp [go_sem, cP, *]) (fun hHeld => ?_)
    refine tkA 0 85 rfl ?_
    refine tkA 1 86 rfl ?_
    refine tkA 2 87 rfl ?_
    refine tkA 3 88 rfl ?_
    refine tkA 4 89 rfl ?_
    refine tkA 5 90 rfl ?_
    refine tkA 6 91 rfl ?_
    refine tkA 7 92 rfl ?_
    refine tkA 8 93 rfl ?_
    refine tkA 9 94 rfl ?_
    refine tkA 10 95 rfl ?_
    refine tkA 11 96 rfl ?_
    refine tkA 12 97 rfl ?_
    refine tkA 13 98 rfl ?_
    refine wpAnyH_done (by kernel_rfl) ?_ _
    by_cases hf : mo * vo < 1000 * (SB + am)
    · have hr : Hid ((16 : Int) = E) := Lib.hid (by rw [← hE.out]; unfold pos0; rw [if_neg (by omega), if_pos hf])
      go_wp2
      go_ret
      exact ⟨ret_int hr.out, Or.inl ⟨by have := hr.out; omega, (by first | exact hBp1w1 | exact hBp1w1.drew)⟩⟩
    · skip
      go_upto_region 15 with (fail)
      refine wp_region_held_drew (S := (fun w' => w'.cell? ⟨w.heap.size, 0, none⟩ = some (.int .i64 0) ∧ w'.cell? ⟨w.heap.size, 6, none⟩ = some (.int .i64 am) ∧ w'.cell? ⟨w.heap.size, 7, none⟩ = some (.bool pu))) (by kernel_rfl) (by simp [go_sem, cP, *]) (fun hHeld => ?_)
      refine tkA 0 99 rfl ?_
      refine tkA 1 100 rfl ?_
      refine tkA 2 101 rfl ?_
      refine tkA 3 102 rfl ?_
      refine skH 4 ⟨some 103, _, _, _, _, _⟩ rfl (by assumption) ?_
      try simp only [Act.put, sA, sB, sC]
      refine skH 5 ⟨some 104, _, _, _, _, _⟩ rfl (by assumption) ?_
      try simp only [Act.put, sA, sB, sC]
      refine skH 6 ⟨some 105, _, _, _, _, _⟩ rfl (by assumption) ?_
      try simp only [Act.put, sA, sB, sC]
      refine tkA 7 106 rfl ?_
      refine tkA 8 107 rfl ?_
      refine skH 9 ⟨some 108, _, _, _, _, _⟩ rfl (by assumption) ?_
      try simp only [Act.put, sA, sB, sC]
      refine skH 10 ⟨some 109, _, _, _, _, _⟩ rfl (by assumption) ?_
      try simp only [Act.put, sA, sB, sC]
      refine skH 11 ⟨some 110, _, _, _, _, _⟩ rfl (by assumption) ?_
      try simp only [Act.put, sA, sB, sC]
      refine skH 12 ⟨some 111, _, _, _, _, _⟩ rfl (by assumption) ?_
      try simp only [Act.put, sA, sB, sC]
      refine skH 13 ⟨some 112, _, _, _, _, _⟩ rfl (by assumption) ?_
      try simp only [Act.put, sA, sB, sC]
      refine skH 14 ⟨some 113, _, _, _, _, _⟩ rfl (by assumption) ?_
      try simp only [Act.put, sA, sB, sC]
      refine skH 15 ⟨some 114, _, _, _, _, _⟩ rfl (by assumption) ?_
      try simp only [Act.put, sA, sB, sC]
      refine skH 16 ⟨some 115, _, _, _, _, _⟩ rfl (by assumption) ?_
      try simp only [Act.put, sA, sB, sC]
      refine skH 17 ⟨some 116, _, _, _, _, _⟩ rfl (by assumption) ?_
      try simp only [Act.put, sA, sB, sC]
      refine skH 18 ⟨some 117, _, _, _, _, _⟩ rfl (by assumption) ?_
      try simp only [Act.put, sA, sB, sC]
      refine skH 19 ⟨some 118, _, _, _, _, _⟩ rfl (by assumption) ?_
      try simp only [Act.put, sA, sB, sC]
      refine skH 20 ⟨some 119, _, _, _, _, _⟩ rfl (by assumption) ?_
      try simp only [Act.put, sA, sB, sC]
      refine skH 21 ⟨some 120, _, _, _, _, _⟩ rfl (by assumption) ?_
      try simp only [Act.put, sA, sB, sC]
      refine skH 22 ⟨some 121, _, _, _, _, _⟩ rfl (by assumption) ?_
      try simp only [Act.put, sA, sB, sC]
      refine skH 23 ⟨some 122, _, _, _, _, _⟩ rfl (by assumption) ?_
      try simp only [Act.put, sA, sB, sC]
      refine skH 24 ⟨some 123, _, _, _, _, _⟩ rfl (by assumption) ?_
      try simp only [Act.put, sA, sB, sC]
      refine skH 25 ⟨some 124, _, _, _, _, _⟩ rfl (by assumption) ?_
      try simp only [Act.put, sA, sB, sC]
      refine skH 26 ⟨some 125, _, _, _, _, _⟩ rfl (by assumption) ?_
      try simp only [Act.put, sA, sB, sC]
      refine skH 27 ⟨some 126, _, _, _, _, _⟩ rfl (by assumption) ?_
      try simp only [Act.put, sA, sB, sC]
      refine skH 28 ⟨some 127, _, _, _, _, _⟩ rfl (by assumption) ?_
      try simp only [Act.put, sA, sB, sC]
      refine skH 29 ⟨some 128, _, _, _, _, _⟩ rfl (by assumption) ?_
      try simp only [Act.put, sA, sB, sC]
      refine skH 30 ⟨some 129, _, _, _, _, _⟩ rfl (by assumption) ?_
      try simp only [Act.put, sA, sB, sC]
      refine skH 31 ⟨some 130, _, _, _, _, _⟩ rfl (by assumption) ?_
      try simp only [Act.put, sA, sB, sC]
      refine skH 32 ⟨some 131, _, _, _, _, _⟩ rfl (by assumption) ?_
      try simp only [Act.put, sA, sB, sC]
      refine skH 33 ⟨some 132, _, _, _, _, _⟩ rfl (by assumption) ?_
      try simp only [Act.put, sA, sB, sC]
      refine tkA 34 133 rfl ?_
      refine wpAnyH_done (by kernel_rfl) ?_ _
      go_upto_region 17 with (fail)
      refine wp_region_Z (S := (fun w' => w'.cell? ⟨ib, qb * 3, none⟩ = some (.int .i64 b0) ∧ w'.cell? ⟨ib, qb * 3 + 1, none⟩ = some (.int .i64 b1) ∧ w'.cell? ⟨ib, qb * 3 + 2, none⟩ = some (.int .i64 b2) ∧ w'.cell? ⟨sb, 0, none⟩ = some (.slice (some ⟨ib, 0, none⟩) n ic) ∧ w'.cell? ⟨tb, 0, none⟩ = some (.int .i64 X) ∧ w'.cell? ⟨tb, 1, none⟩ = some (.int .i64 Y) ∧ w'.cell? ⟨tb, 2, none⟩ = some (.int .i64 Z))) 15 (by kernel_rfl) (by kernel_rfl) (by kernel_rfl) (by simp [go_sem, cP, *]) (fun hHeld => ?_)
      refine tzA 0 134 rfl ?_
      refine tzA 1 135 rfl ?_
      refine tzA 2 136 rfl ?_
      refine tzA 3 137 rfl ?_
      refine tzA 4 138 rfl ?_
      refine tzA 5 139 rfl ?_
      refine tzA 6 140 rfl ?_
      refine tzA 7 141 rfl ?_
      refine tzA 8 142 rfl ?_
      refine tzA 9 143 rfl ?_
      refine tzA 10 144 rfl ?_
      refine tzA 11 145 rfl ?_
      refine tzA 12 146 rfl ?_
      refine wpAnyZ_call (q := 13) (by kernel_rfl) rfl rfl (fun K hK => ?_)
      go_simp
      refine (refPlus_any b0 b1 b2 X Y Z c0 c1 c2 _ (by omega) (by omega) (by omega) (by omega) (by omega) (by omega) (by omega) (by omega) (by omega) (by omega) (by omega) (by omega) hC).mono ?_
      rintro e p2w1 ⟨rfl, hbp21⟩
      have zp21 := hbp21.size
      try simp at zp21
      obtain ⟨p21A0, p21A1, p21A2, p21A3, p21A4, p21A5, p21A6, p21A7, p21B0, p21B1, p21B2, p21C0, p21C1, p21C2, p21C3, p21C4, p21C5, p21C6, p21C7, p21D0, p21D1, p21D2, p21E0, p21E1⟩ : p2w1.cell? ⟨w.heap.size, 0, none⟩ = some (.int .i64 0) ∧ p2w1.cell? ⟨w.heap.size, 1, none⟩ = some (.int .i64 d) ∧ p2w1.cell? ⟨w.heap.size, 2, none⟩ = some (.string ⟨#[]⟩) ∧ p2w1.cell? ⟨w.heap.size, 3, none⟩ = some (.string tz) ∧ p2w1.cell? ⟨w.heap.size, 4, none⟩ = some (.int .i64 o) ∧ p2w1.cell? ⟨w.heap.size, 5, none⟩ = some (.int .i64 h) ∧ p2w1.cell? ⟨w.heap.size, 6, none⟩ = some (.int .i64 am) ∧ p2w1.cell? ⟨w.heap.size, 7, none⟩ = some (.bool pu) ∧ p2w1.cell? ⟨ib, qb * 3, none⟩ = some (.int .i64 b0) ∧ p2w1.cell? ⟨ib, qb * 3 + 1, none⟩ = some (.int .i64 b1) ∧ p2w1.cell? ⟨ib, qb * 3 + 2, none⟩ = some (.int .i64 b2) ∧ p2w1.cell? ⟨sb, 0, none⟩ = some (.slice (some ⟨ib, 0, none⟩) n ic) ∧ p2w1.cell? ⟨sb, 1, none⟩ = some (.int .i64 g0) ∧ p2w1.cell? ⟨sb, 2, none⟩ = some (.int .i64 g1) ∧ p2w1.cell? ⟨sb, 3, none⟩ = some (.int .i64 g2) ∧ p2w1.cell? ⟨sb, 4, none⟩ = some (.int .i64 k0) ∧ p2w1.cell? ⟨sb, 5, none⟩ = some (.int .i64 k1) ∧ p2w1.cell? ⟨sb, 6, none⟩ = some (.int .i64 k2) ∧ p2w1.cell? ⟨sb, 7, none⟩ = some (.int .i64 day) ∧ p2w1.cell? ⟨tb, 0, none⟩ = some (.int .i64 X) ∧ p2w1.cell? ⟨tb, 1, none⟩ = some (.int .i64 Y) ∧ p2w1.cell? ⟨tb, 2, none⟩ = some (.int .i64 Z) ∧ p2w1.cell? ⟨v, of + qb * 3 + 1, none⟩ = some (.int .i64 vo) ∧ p2w1.cell? ⟨v, of + qb * 3 + 2, none⟩ = some (.int .i64 mo) := by refine ⟨?_, ?_, ?_, ?_, ?_, ?_, ?_, ?_, ?_, ?_, ?_, ?_, ?_, ?_, ?_, ?_, ?_, ?_, ?_, ?_, ?_, ?_, ?_, ?_⟩ <;> (rw [bc1 hbp21]; simp [go_sem, cP, *])
      obtain ⟨p21f1, p21f2, p21f3⟩ : (∀ j, p2w1.frozen? ⟨ib, j, none⟩ = false) ∧ (∀ j, p2w1.frozen? ⟨sb, j, none⟩ = false) ∧ (∀ j, p2w1.frozen? ⟨tb, j, none⟩ = false) := by refine ⟨?_, ?_, ?_⟩ <;> (intro j; rw [bc2 hbp21]; simp [go_sem, *])
      obtain ⟨p21o0, p21n0, p21o1, p21n1, p21o2, p21n2, p21o3, p21n3, p21o4, p21n4⟩ : w.heap.size < p2w1.heap.size ∧ p2w1.heap.size ≠ w.heap.size ∧ ib < p2w1.heap.size ∧ p2w1.heap.size ≠ ib ∧ sb < p2w1.heap.size ∧ p2w1.heap.size ≠ sb ∧ tb < p2w1.heap.size ∧ p2w1.heap.size ≠ tb ∧ v < p2w1.heap.size ∧ p2w1.heap.size ≠ v := by refine ⟨?_, ?_, ?_, ?_, ?_, ?_, ?_, ?_, ?_, ?_⟩ <;> omega
      have hBp21 : Below p1w1.heap.size p1w1 p2w1 := belA
      clear hbp21 p11A0 p11A1 p11A2 p11A3 p11A4 p11A5 p11A6 p11A7 p11B0 p11B1 p11B2 p11C0 p11C1 p11C2 p11C3 p11C4 p11C5 p11C6 p11C7 p11D0 p11D1 p11D2 p11E0 p11E1 p11f1 p11f2 p11f3 p11o0 p11n0 p11o1 p11n1 p11o2 p11n2 p11o3 p11n3 p11o4 p11n4 hBp11
      go_wp2_with fail
      refine hK.out _ _ (by simp [go_sem, cP, *]) (fun hHeld => ?_)
      clear hK K
      try simp only [Act.put, List.setIfInBounds_toArray, List.set_cons_zero, List.set_cons_succ]
      refine tzA 14 148 rfl ?_
      refine wpAnyZ_last (by kernel_rfl) rfl (fun K hK => ?_)
      go_simp
      go_wp2_with fail
      refine hK.out _ _ ?_
      clear hK K
      try simp only [Act.put, List.setIfInBounds_toArray, List.set_cons_zero, List.set_cons_succ]
      obtain ⟨y2A0, y2A1, y2A2, y2A3, y2A4, y2A5, y2A6, y2A7, y2B0, y2B1, y2B2, y2C0, y2C1, y2C2, y2C3, y2C4, y2C5, y2C6, y2C7, y2D0, y2D1, y2D2, y2E0, y2E1⟩ : (((p2w1.setCell ⟨ib, qb * 3, none⟩ (.int .i64 c0)).setCell ⟨ib, qb * 3 + 1, none⟩ (.int .i64 c1)).setCell ⟨ib, qb * 3 + 2, none⟩ (.int .i64 c2)).cell? ⟨w.heap.size, 0, none⟩ = some (.int .i64 0) ∧ (((p2w1.setCell ⟨ib, qb * 3, none⟩ (.int .i64 c0)).setCell ⟨ib, qb * 3 + 1, none⟩ (.int .i64 c1)).setCell ⟨ib, qb * 3 + 2, none⟩ (.int .i64 c2)).cell? ⟨w.heap.size, 1, none⟩ = some (.int .i64 d) ∧ (((p2w1.setCell ⟨ib, qb * 3, none⟩ (.int .i64 c0)).setCell ⟨ib, qb * 3 + 1, none⟩ (.int .i64 c1)).setCell ⟨ib, qb * 3 + 2, none⟩ (.int .i64 c2)).cell? ⟨w.heap.size, 2, none⟩ = some (.string ⟨#[]⟩) ∧ (((p2w1.setCell ⟨ib, qb * 3, none⟩ (.int .i64 c0)).setCell ⟨ib, qb * 3 + 1, none⟩ (.int .i64 c1)).setCell ⟨ib, qb * 3 + 2, none⟩ (.int .i64 c2)).cell? ⟨w.heap.size, 3, none⟩ = some (.string tz) ∧ (((p2w1.setCell ⟨ib, qb * 3, none⟩ (.int .i64 c0)).setCell ⟨ib, qb * 3 + 1, none⟩ (.int .i64 c1)).setCell ⟨ib, qb * 3 + 2, none⟩ (.int .i64 c2)).cell? ⟨w.heap.size, 4, none⟩ = some (.int .i64 o) ∧ (((p2w1.setCell ⟨ib, qb * 3, none⟩ (.int .i64 c0)).setCell ⟨ib, qb * 3 + 1, none⟩ (.int .i64 c1)).setCell ⟨ib, qb * 3 + 2, none⟩ (.int .i64 c2)).cell? ⟨w.heap.size, 5, none⟩ = some (.int .i64 h) ∧ (((p2w1.setCell ⟨ib, qb * 3, none⟩ (.int .i64 c0)).setCell ⟨ib, qb * 3 + 1, none⟩ (.int .i64 c1)).setCell ⟨ib, qb * 3 + 2, none⟩ (.int .i64 c2)).cell? ⟨w.heap.size, 6, none⟩ = some (.int .i64 am) ∧ (((p2w1.setCell ⟨ib, qb * 3, none⟩ (.int .i64 c0)).setCell ⟨ib, qb * 3 + 1, none⟩ (.int .i64 c1)).setCell ⟨ib, qb * 3 + 2, none⟩ (.int .i64 c2)).cell? ⟨w.heap.size, 7, none⟩ = some (.bool pu) ∧ (((p2w1.setCell ⟨ib, qb * 3, none⟩ (.int .i64 c0)).setCell ⟨ib, qb * 3 + 1, none⟩ (.int .i64 c1)).setCell ⟨ib, qb * 3 + 2, none⟩ (.int .i64 c2)).cell? ⟨ib, qb * 3, none⟩ = some (.int .i64 c0) ∧ (((p2w1.setCell ⟨ib, qb * 3, none⟩ (.int .i64 c0)).setCell ⟨ib, qb * 3 + 1, none⟩ (.int .i64 c1)).setCell ⟨ib, qb * 3 + 2, none⟩ (.int .i64 c2)).cell? ⟨ib, qb * 3 + 1, none⟩ = some (.int .i64 c1) ∧ (((p2w1.setCell ⟨ib, qb * 3, none⟩ (.int .i64 c0)).setCell ⟨ib, qb * 3 + 1, none⟩ (.int .i64 c1)).setCell ⟨ib, qb * 3 + 2, none⟩ (.int .i64 c2)).cell? ⟨ib, qb * 3 + 2, none⟩ = some (.int .i64 c2) ∧ (((p2w1.setCell ⟨ib, qb * 3, none⟩ (.int .i64 c0)).setCell ⟨ib, qb * 3 + 1, none⟩ (.int .i64 c1)).setCell ⟨ib, qb * 3 + 2, none⟩ (.int .i64 c2)).cell? ⟨sb, 0, none⟩ = some (.slice (some ⟨ib, 0, none⟩) n ic) ∧ (((p2w1.setCell ⟨ib, qb * 3, none⟩ (.int .i64 c0)).setCell ⟨ib, qb * 3 + 1, none⟩ (.int .i64 c1)).setCell ⟨ib, qb * 3 + 2, none⟩ (.int .i64 c2)).cell? ⟨sb, 1, none⟩ = some (.int .i64 g0) ∧ (((p2w1.setCell ⟨ib, qb * 3, none⟩ (.int .i64 c0)).setCell ⟨ib, qb * 3 + 1, none⟩ (.int .i64 c1)).setCell ⟨ib, qb * 3 + 2, none⟩ (.int .i64 c2)).cell? ⟨sb, 2, none⟩ = some (.int .i64 g1) ∧ (((p2w1.setCell ⟨ib, qb * 3, none⟩ (.int .i64 c0)).setCell ⟨ib, qb * 3 + 1, none⟩ (.int .i64 c1)).setCell ⟨ib, qb * 3 + 2, none⟩ (.int .i64 c2)).cell? ⟨sb, 3, none⟩ = some (.int .i64 g2) ∧ (((p2w1.setCell ⟨ib, qb * 3, none⟩ (.int .i64 c0)).setCell ⟨ib, qb * 3 + 1, none⟩ (.int .i64 c1)).setCell ⟨ib, qb * 3 + 2, none⟩ (.int .i64 c2)).cell? ⟨sb, 4, none⟩ = some (.int .i64 k0) ∧ (((p2w1.setCell ⟨ib, qb * 3, none⟩ (.int .i64 c0)).setCell ⟨ib, qb * 3 + 1, none⟩ (.int .i64 c1)).setCell ⟨ib, qb * 3 + 2, none⟩ (.int .i64 c2)).cell? ⟨sb, 5, none⟩ = some (.int .i64 k1) ∧ (((p2w1.setCell ⟨ib, qb * 3, none⟩ (.int .i64 c0)).setCell ⟨ib, qb * 3 + 1, none⟩ (.int .i64 c1)).setCell ⟨ib, qb * 3 + 2, none⟩ (.int .i64 c2)).cell? ⟨sb, 6, none⟩ = some (.int .i64 k2) ∧ (((p2w1.setCell ⟨ib, qb * 3, none⟩ (.int .i64 c0)).setCell ⟨ib, qb * 3 + 1, none⟩ (.int .i64 c1)).setCell ⟨ib, qb * 3 + 2, none⟩ (.int .i64 c2)).cell? ⟨sb, 7, none⟩ = some (.int .i64 day) ∧ (((p2w1.setCell ⟨ib, qb * 3, none⟩ (.int .i64 c0)).setCell ⟨ib, qb * 3 + 1, none⟩ (.int .i64 c1)).setCell ⟨ib, qb * 3 + 2, none⟩ (.int .i64 c2)).cell? ⟨tb, 0, none⟩ = some (.int .i64 X) ∧ (((p2w1.setCell ⟨ib, qb * 3, none⟩ (.int .i64 c0)).setCell ⟨ib, qb * 3 + 1, none⟩ (.int .i64 c1)).setCell ⟨ib, qb * 3 + 2, none⟩ (.int .i64 c2)).cell? ⟨tb, 1, none⟩ = some (.int .i64 Y) ∧ (((p2w1.setCell ⟨ib, qb * 3, none⟩ (.int .i64 c0)).setCell ⟨ib, qb * 3 + 1, none⟩ (.int .i64 c1)).setCell ⟨ib, qb * 3 + 2, none⟩ (.int .i64 c2)).cell? ⟨tb, 2, none⟩ = some (.int .i64 Z) ∧ (((p2w1.setCell ⟨ib, qb * 3, none⟩ (.int .i64 c0)).setCell ⟨ib, qb * 3 + 1, none⟩ (.int .i64 c1)).setCell ⟨ib, qb * 3 + 2, none⟩ (.int .i64 c2)).cell? ⟨v, of + qb * 3 + 1, none⟩ = some (.int .i64 vo) ∧ (((p2w1.setCell ⟨ib, qb * 3, none⟩ (.int .i64 c0)).setCell ⟨ib, qb * 3 + 1, none⟩ (.int .i64 c1)).setCell ⟨ib, qb * 3 + 2, none⟩ (.int .i64 c2)).cell? ⟨v, of + qb * 3 + 2, none⟩ = some (.int .i64 mo) := by refine ⟨?_, ?_, ?_, ?_, ?_, ?_, ?_, ?_, ?_, ?_, ?_, ?_, ?_, ?_, ?_, ?_, ?_, ?_, ?_, ?_, ?_, ?_, ?_, ?_⟩ <;> (simp [go_sem, cP, *])
      obtain ⟨y2f1, y2f2, y2f3⟩ : (∀ j, (((p2w1.setCell ⟨ib, qb * 3, none⟩ (.int .i64 c0)).setCell ⟨ib, qb * 3 + 1, none⟩ (.int .i64 c1)).setCell ⟨ib, qb * 3 + 2, none⟩ (.int .i64 c2)).frozen? ⟨ib, j, none⟩ = false) ∧ (∀ j, (((p2w1.setCell ⟨ib, qb * 3, none⟩ (.int .i64 c0)).setCell ⟨ib, qb * 3 + 1, none⟩ (.int .i64 c1)).setCell ⟨ib, qb * 3 + 2, none⟩ (.int .i64 c2)).frozen? ⟨sb, j, none⟩ = false) ∧ (∀ j, (((p2w1.setCell ⟨ib, qb * 3, none⟩ (.int .i64 c0)).setCell ⟨ib, qb * 3 + 1, none⟩ (.int .i64 c1)).setCell ⟨ib, qb * 3 + 2, none⟩ (.int .i64 c2)).frozen? ⟨tb, j, none⟩ = false) := by refine ⟨?_, ?_, ?_⟩ <;> (intro j; simp [go_sem, *])
      have hzy2 : (((p2w1.setCell ⟨ib, qb * 3, none⟩ (.int .i64 c0)).setCell ⟨ib, qb * 3 + 1, none⟩ (.int .i64 c1)).setCell ⟨ib, qb * 3 + 2, none⟩ (.int .i64 c2)).heap.size = p2w1.heap.size := by simp
      have hDy2 : BelowD sb ib w.heap.size w (((p2w1.setCell ⟨ib, qb * 3, none⟩ (.int .i64 c0)).setCell ⟨ib, qb * 3 + 1, none⟩ (.int .i64 c1)).setCell ⟨ib, qb * 3 + 2, none⟩ (.int .i64 c2)) := ((((BelowD.of (hBp1w1.trans (hBp21.mono (by omega))) (Nat.le_refl _))).set ib (qb * 3) _ (Or.inr (Or.inl rfl))).set ib (qb * 3 + 1) _ (Or.inr (Or.inl rfl))).set ib (qb * 3 + 2) _ (Or.inr (Or.inl rfl))
      have hVy2 : ∀ q, q ≠ qb * 3 → q ≠ qb * 3 + 1 → q ≠ qb * 3 + 2 → (((p2w1.setCell ⟨ib, qb * 3, none⟩ (.int .i64 c0)).setCell ⟨ib, qb * 3 + 1, none⟩ (.int .i64 c1)).setCell ⟨ib, qb * 3 + 2, none⟩ (.int .i64 c2)).cell? ⟨ib, q, none⟩ = w.cell? ⟨ib, q, none⟩ := fun q u0 u1 u2 => by rw [soff (Ne.symm u2), soff (Ne.symm u1), soff (Ne.symm u0)]; exact ((hBp1w1.trans (hBp21.mono (by omega))).cell (p := ⟨ib, q, none⟩) li)
      have zsy2 : p1w1.heap.size ≤ (((p2w1.setCell ⟨ib, qb * 3, none⟩ (.int .i64 c0)).setCell ⟨ib, qb * 3 + 1, none⟩ (.int .i64 c1)).setCell ⟨ib, qb * 3 + 2, none⟩ (.int .i64 c2)).heap.size := by rw [hzy2]; exact hBp21.size
      clear p21A0 p21A1 p21A2 p21A3 p21A4 p21A5 p21A6 p21A7 p21B0 p21B1 p21B2 p21C0 p21C1 p21C2 p21C3 p21C4 p21C5 p21C6 p21C7 p21D0 p21D1 p21D2 p21E0 p21E1 p21f1 p21f2 p21f3 p21o0 p21n0 p21o1 p21n1 p21o2 p21n2 p21o3 p21n3 p21o4 p21n4 hBp21
      generalize hWy2 : ((p2w1.setCell ⟨ib, qb * 3, none⟩ (.int .i64 c0)).setCell ⟨ib, qb * 3 + 1, none⟩ (.int .i64 c1)).setCell ⟨ib, qb * 3 + 2, none⟩ (.int .i64 c2) = y2 at *
      clear hWy2
      have q1y2 : w.heap.size < y2.heap.size := by omega
      have q2y2 : ib < y2.heap.size := by omega
      have q3y2 : sb < y2.heap.size := by omega
      have q4y2 : tb < y2.heap.size := by omega
      have q5y2 : v < y2.heap.size := by omega
      go_upto_region 21 with (fail)
      refine wp_region_Z (S := (fun w' => w'.cell? ⟨sb, 1, none⟩ = some (.int .i64 g0) ∧ w'.cell? ⟨sb, 2, none⟩ = some (.int .i64 g1) ∧ w'.cell? ⟨sb, 3, none⟩ = some (.int .i64 g2) ∧ w'.cell? ⟨tb, 0, none⟩ = some (.int .i64 X) ∧ w'.cell? ⟨tb, 1, none⟩ = some (.int .i64 Y) ∧ w'.cell? ⟨tb, 2, none⟩ = some (.int .i64 Z))) 11 (by kernel_rfl) (by kernel_rfl) (by kernel_rfl) (by simp [go_sem, cP, *]) (fun hHeld => ?_)
      refine tzA 0 170 rfl ?_
      refine tzA 1 171 rfl ?_
      refine tzA 2 172 rfl ?_
      refine tzA 3 173 rfl ?_
      refine tzA 4 174 rfl ?_
      refine tzA 5 175 rfl ?_
      refine tzA 6 176 rfl ?_
      refine wpAnyZ_call (q := 7) (by kernel_rfl) rfl rfl (fun K hK => ?_)
      go_simp
      refine (refPlus_any g0 g1 g2 X Y Z G0 G1 G2 _ (by omega) (by omega) (by omega) (by omega) (by omega) (by omega) (by omega) (by omega) (by omega) (by omega) (by omega) (by omega) hI).mono ?_
      rintro e p3w1 ⟨rfl, hbp31⟩
      have zp31 := hbp31.size
      try simp at zp31
      obtain ⟨p31A0, p31A1, p31A2, p31A3, p31A4, p31A5, p31A6, p31A7, p31B0, p31B1, p31B2, p31C0, p31C1, p31C2, p31C3, p31C4, p31C5, p31C6, p31C7, p31D0, p31D1, p31D2, p31E0, p31E1⟩ : p3w1.cell? ⟨w.heap.size, 0, none⟩ = some (.int .i64 0) ∧ p3w1.cell? ⟨w.heap.size, 1, none⟩ = some (.int .i64 d) ∧ p3w1.cell? ⟨w.heap.size, 2, none⟩ = some (.string ⟨#[]⟩) ∧ p3w1.cell? ⟨w.heap.size, 3, none⟩ = some (.string tz) ∧ p3w1.cell? ⟨w.heap.size, 4, none⟩ = some (.int .i64 o) ∧ p3w1.cell? ⟨w.heap.size, 5, none⟩ = some (.int .i64 h) ∧ p3w1.cell? ⟨w.heap.size, 6, none⟩ = some (.int .i64 am) ∧ p3w1.cell? ⟨w.heap.size, 7, none⟩ = some (.bool pu) ∧ p3w1.cell? ⟨ib, qb * 3, none⟩ = some (.int .i64 c0) ∧ p3w1.cell? ⟨ib, qb * 3 + 1, none⟩ = some (.int .i64 c1) ∧ p3w1.cell? ⟨ib, qb * 3 + 2, none⟩ = some (.int .i64 c2) ∧ p3w1.cell? ⟨sb, 0, none⟩ = some (.slice (some ⟨ib, 0, none⟩) n ic) ∧ p3w1.cell? ⟨sb, 1, none⟩ = some (.int .i64 g0) ∧ p3w1.cell? ⟨sb, 2, none⟩ = some (.int .i64 g1) ∧ p3w1.cell? ⟨sb, 3, none⟩ = some (.int .i64 g2) ∧ p3w1.cell? ⟨sb, 4, none⟩ = some (.int .i64 k0) ∧ p3w1.cell? ⟨sb, 5, none⟩ = some (.int .i64 k1) ∧ p3w1.cell? ⟨sb, 6, none⟩ = some (.int .i64 k2) ∧ p3w1.cell? ⟨sb, 7, none⟩ = some (.int .i64 day) ∧ p3w1.cell? ⟨tb, 0, none⟩ = some (.int .i64 X) ∧ p3w1.cell? ⟨tb, 1, none⟩ = some (.int .i64 Y) ∧ p3w1.cell? ⟨tb, 2, none⟩ = some (.int .i64 Z) ∧ p3w1.cell? ⟨v, of + qb * 3 + 1, none⟩ = some (.int .i64 vo) ∧ p3w1.cell? ⟨v, of + qb * 3 + 2, none⟩ = some (.int .i64 mo) := by refine ⟨?_, ?_, ?_, ?_, ?_, ?_, ?_, ?_, ?_, ?_, ?_, ?_, ?_, ?_, ?_, ?_, ?_, ?_, ?_, ?_, ?_, ?_, ?_, ?_⟩ <;> (rw [bc1 hbp31]; simp [go_sem, cP, *])
      obtain ⟨p31f1, p31f2, p31f3⟩ : (∀ j, p3w1.frozen? ⟨ib, j, none⟩ = false) ∧ (∀ j, p3w1.frozen? ⟨sb, j, none⟩ = false) ∧ (∀ j, p3w1.frozen? ⟨tb, j, none⟩ = false) := by refine ⟨?_, ?_, ?_⟩ <;> (intro j; rw [bc2 hbp31]; simp [go_sem, *])
      obtain ⟨p31o0, p31n0, p31o1, p31n1, p31o2, p31n2, p31o3, p31n3, p31o4, p31n4⟩ : w.heap.size < p3w1.heap.size ∧ p3w1.heap.size ≠ w.heap.size ∧ ib < p3w1.heap.size ∧ p3w1.heap.size ≠ ib ∧ sb < p3w1.heap.size ∧ p3w1.heap.size ≠ sb ∧ tb < p3w1.heap.size ∧ p3w1.heap.size ≠ tb ∧ v < p3w1.heap.size ∧ p3w1.heap.size ≠ v := by refine ⟨?_, ?_, ?_, ?_, ?_, ?_, ?_, ?_, ?_, ?_⟩ <;> omega
      have hBp31 : Below y2.heap.size y2 p3w1 := belA
      clear hbp31 y2A0 y2A1 y2A2 y2A3 y2A4 y2A5 y2A6 y2A7 y2B0 y2B1 y2B2 y2C0 y2C1 y2C2 y2C3 y2C4 y2C5 y2C6 y2C7 y2D0 y2D1 y2D2 y2E0 y2E1 y2f1 y2f2 y2f3 q1y2 q2y2 q3y2 q4y2 q5y2
      go_wp2_with fail
      refine hK.out _ _ (by simp [go_sem, cP, *]) (fun hHeld => ?_)
      clear hK K
      try simp only [Act.put, List.setIfInBounds_toArray, List.set_cons_zero, List.set_cons_succ]
      refine tzA 8 178 rfl ?_
      refine tzA 9 179 rfl ?_
      refine tzA 10 180 rfl ?_
      refine wpAnyZ_last (by kernel_rfl) rfl (fun K hK => ?_)
      go_simp
      go_wp2_with fail
      refine hK.out _ _ ?_
      clear hK K
      try simp only [Act.put, List.setIfInBounds_toArray, List.set_cons_zero, List.set_cons_succ]
      obtain ⟨y3A0, y3A1, y3A2, y3A3, y3A4, y3A5, y3A6, y3A7, y3B0, y3B1, y3B2, y3C0, y3C1, y3C2, y3C3, y3C4, y3C5, y3C6, y3C7, y3D0, y3D1, y3D2, y3E0, y3E1⟩ : (((p3w1.setCell ⟨sb, 1, none⟩ (.int .i64 G0)).setCell ⟨sb, 2, none⟩ (.int .i64 G1)).setCell ⟨sb, 3, none⟩ (.int .i64 G2)).cell? ⟨w.heap.size, 0, none⟩ = some (.int .i64 0) ∧ (((p3w1.setCell ⟨sb, 1, none⟩ (.int .i64 G0)).setCell ⟨sb, 2, none⟩ (.int .i64 G1)).setCell ⟨sb, 3, none⟩ (.int .i64 G2)).cell? ⟨w.heap.size, 1, none⟩ = some (.int .i64 d) ∧ (((p3w1.setCell ⟨sb, 1, none⟩ (.int .i64 G0)).setCell ⟨sb, 2, none⟩ (.int .i64 G1)).setCell ⟨sb, 3, none⟩ (.int .i64 G2)).cell? ⟨w.heap.size, 2, none⟩ = some (.string ⟨#[]⟩) ∧ (((p3w1.setCell ⟨sb, 1, none⟩ (.int .i64 G0)).setCell ⟨sb, 2, none⟩ (.int .i64 G1)).setCell ⟨sb, 3, none⟩ (.int .i64 G2)).cell? ⟨w.heap.size, 3, none⟩ = some (.string tz) ∧ (((p3w1.setCell ⟨sb, 1, none⟩ (.int .i64 G0)).setCell ⟨sb, 2, none⟩ (.int .i64 G1)).setCell ⟨sb, 3, none⟩ (.int .i64 G2)).cell? ⟨w.heap.size, 4, none⟩ = some (.int .i64 o) ∧ (((p3w1.setCell ⟨sb, 1, none⟩ (.int .i64 G0)).setCell ⟨sb, 2, none⟩ (.int .i64 G1)).setCell ⟨sb, 3, none⟩ (.int .i64 G2)).cell? ⟨w.heap.size, 5, none⟩ = some (.int .i64 h) ∧ (((p3w1.setCell ⟨sb, 1, none⟩ (.int .i64 G0)).setCell ⟨sb, 2, none⟩ (.int .i64 G1)).setCell ⟨sb, 3, none⟩ (.int .i64 G2)).cell? ⟨w.heap.size, 6, none⟩ = some (.int .i64 am) ∧ (((p3w1.setCell ⟨sb, 1, none⟩ (.int .i64 G0)).setCell ⟨sb, 2, none⟩ (.int .i64 G1)).setCell ⟨sb, 3, none⟩ (.int .i64 G2)).cell? ⟨w.heap.size, 7, none⟩ = some (.bool pu) ∧ (((p3w1.setCell ⟨sb, 1, none⟩ (.int .i64 G0)).setCell ⟨sb, 2, none⟩ (.int .i64 G1)).setCell ⟨sb, 3, none⟩ (.int .i64 G2)).cell? ⟨ib, qb * 3, none⟩ = some (.int .i64 c0) ∧ (((p3w1.setCell ⟨sb, 1, none⟩ (.int .i64 G0)).setCell ⟨sb, 2, none⟩ (.int .i64 G1)).setCell ⟨sb, 3, none⟩ (.int .i64 G2)).cell? ⟨ib, qb * 3 + 1, none⟩ = some (.int .i64 c1) ∧ (((p3w1.setCell ⟨sb, 1, none⟩ (.int .i64 G0)).setCell ⟨sb, 2, none⟩ (.int .i64 G1)).setCell ⟨sb, 3, none⟩ (.int .i64 G2)).cell? ⟨ib, qb * 3 + 2, none⟩ = some (.int .i64 c2) ∧ (((p3w1.setCell ⟨sb, 1, none⟩ (.int .i64 G0)).setCell ⟨sb, 2, none⟩ (.int .i64 G1)).setCell ⟨sb, 3, none⟩ (.int .i64 G2)).cell? ⟨sb, 0, none⟩ = some (.slice (some ⟨ib, 0, none⟩) n ic) ∧ (((p3w1.setCell ⟨sb, 1, none⟩ (.int .i64 G0)).setCell ⟨sb, 2, none⟩ (.int .i64 G1)).setCell ⟨sb, 3, none⟩ (.int .i64 G2)).cell? ⟨sb, 1, none⟩ = some (.int .i64 G0) ∧ (((p3w1.setCell ⟨sb, 1, none⟩ (.int .i64 G0)).setCell ⟨sb, 2, none⟩ (.int .i64 G1)).setCell ⟨sb, 3, none⟩ (.int .i64 G2)).cell? ⟨sb, 2, none⟩ = some (.int .i64 G1) ∧ (((p3w1.setCell ⟨sb, 1, none⟩ (.int .i64 G0)).setCell ⟨sb, 2, none⟩ (.int .i64 G1)).setCell ⟨sb, 3, none⟩ (.int .i64 G2)).cell? ⟨sb, 3, none⟩ = some (.int .i64 G2) ∧ (((p3w1.setCell ⟨sb, 1, none⟩ (.int .i64 G0)).setCell ⟨sb, 2, none⟩ (.int .i64 G1)).setCell ⟨sb, 3, none⟩ (.int .i64 G2)).cell? ⟨sb, 4, none⟩ = some (.int .i64 k0) ∧ (((p3w1.setCell ⟨sb, 1, none⟩ (.int .i64 G0)).setCell ⟨sb, 2, none⟩ (.int .i64 G1)).setCell ⟨sb, 3, none⟩ (.int .i64 G2)).cell? ⟨sb, 5, none⟩ = some (.int .i64 k1) ∧ (((p3w1.setCell ⟨sb, 1, none⟩ (.int .i64 G0)).setCell ⟨sb, 2, none⟩ (.int .i64 G1)).setCell ⟨sb, 3, none⟩ (.int .i64 G2)).cell? ⟨sb, 6, none⟩ = some (.int .i64 k2) ∧ (((p3w1.setCell ⟨sb, 1, none⟩ (.int .i64 G0)).setCell ⟨sb, 2, none⟩ (.int .i64 G1)).setCell ⟨sb, 3, none⟩ (.int .i64 G2)).cell? ⟨sb, 7, none⟩ = some (.int .i64 day) ∧ (((p3w1.setCell ⟨sb, 1, none⟩ (.int .i64 G0)).setCell ⟨sb, 2, none⟩ (.int .i64 G1)).setCell ⟨sb, 3, none⟩ (.int .i64 G2)).cell? ⟨tb, 0, none⟩ = some (.int .i64 X) ∧ (((p3w1.setCell ⟨sb, 1, none⟩ (.int .i64 G0)).setCell ⟨sb, 2, none⟩ (.int .i64 G1)).setCell ⟨sb, 3, none⟩ (.int .i64 G2)).cell? ⟨tb, 1, none⟩ = some (.int .i64 Y) ∧ (((p3w1.setCell ⟨sb, 1, none⟩ (.int .i64 G0)).setCell ⟨sb, 2, none⟩ (.int .i64 G1)).setCell ⟨sb, 3, none⟩ (.int .i64 G2)).cell? ⟨tb, 2, none⟩ = some (.int .i64 Z) ∧ (((p3w1.setCell ⟨sb, 1, none⟩ (.int .i64 G0)).setCell ⟨sb, 2, none⟩ (.int .i64 G1)).setCell ⟨sb, 3, none⟩ (.int .i64 G2)).cell? ⟨v, of + qb * 3 + 1, none⟩ = some (.int .i64 vo) ∧ (((p3w1.setCell ⟨sb, 1, none⟩ (.int .i64 G0)).setCell ⟨sb, 2, none⟩ (.int .i64 G1)).setCell ⟨sb, 3, none⟩ (.int .i64 G2)).cell? ⟨v, of + qb * 3 + 2, none⟩ = some (.int .i64 mo) := by refine ⟨?_, ?_, ?_, ?_, ?_, ?_, ?_, ?_, ?_, ?_, ?_, ?_, ?_, ?_, ?_, ?_, ?_, ?_, ?_, ?_, ?_, ?_, ?_, ?_⟩ <;> (simp [go_sem, cP, *])
      obtain ⟨y3f1, y3f2, y3f3⟩ : (∀ j, (((p3w1.setCell ⟨sb, 1, none⟩ (.int .i64 G0)).setCell ⟨sb, 2, none⟩ (.int .i64 G1)).setCell ⟨sb, 3, none⟩ (.int .i64 G2)).frozen? ⟨ib, j, none⟩ = false) ∧ (∀ j, (((p3w1.setCell ⟨sb, 1, none⟩ (.int .i64 G0)).setCell ⟨sb, 2, none⟩ (.int .i64 G1)).setCell ⟨sb, 3, none⟩ (.int .i64 G2)).frozen? ⟨sb, j, none⟩ = false) ∧ (∀ j, (((p3w1.setCell ⟨sb, 1, none⟩ (.int .i64 G0)).setCell ⟨sb, 2, none⟩ (.int .i64 G1)).setCell ⟨sb, 3, none⟩ (.int .i64 G2)).frozen? ⟨tb, j, none⟩ = false) := by refine ⟨?_, ?_, ?_⟩ <;> (intro j; simp [go_sem, *])
      have hzy3 : (((p3w1.setCell ⟨sb, 1, none⟩ (.int .i64 G0)).setCell ⟨sb, 2, none⟩ (.int .i64 G1)).setCell ⟨sb, 3, none⟩ (.int .i64 G2)).heap.size = p3w1.heap.size := by simp
      have hDy3 : BelowD sb ib w.heap.size w (((p3w1.setCell ⟨sb, 1, none⟩ (.int .i64 G0)).setCell ⟨sb, 2, none⟩ (.int .i64 G1)).setCell ⟨sb, 3, none⟩ (.int .i64 G2)) := ((((hDy2.trans (BelowD.of hBp31 (by omega)))).set sb (1) _ (Or.inl rfl)).set sb (2) _ (Or.inl rfl)).set sb (3) _ (Or.inl rfl)
      have hVy3 : ∀ q, q ≠ qb * 3 → q ≠ qb * 3 + 1 → q ≠ qb * 3 + 2 → (((p3w1.setCell ⟨sb, 1, none⟩ (.int .i64 G0)).setCell ⟨sb, 2, none⟩ (.int .i64 G1)).setCell ⟨sb, 3, none⟩ (.int .i64 G2)).cell? ⟨ib, q, none⟩ = w.cell? ⟨ib, q, none⟩ := fun q u0 u1 u2 => by rw [sblk (by first | assumption | omega), sblk (by first | assumption | omega), sblk (by first | assumption | omega)]; exact ((hBp31.cell (p := ⟨ib, q, none⟩) (by show ib < _; omega)).trans (hVy2 q u0 u1 u2))
      have zsy3 : y2.heap.size ≤ (((p3w1.setCell ⟨sb, 1, none⟩ (.int .i64 G0)).setCell ⟨sb, 2, none⟩ (.int .i64 G1)).setCell ⟨sb, 3, none⟩ (.int .i64 G2)).heap.size := by rw [hzy3]; exact hBp31.size
      clear p31A0 p31A1 p31A2 p31A3 p31A4 p31A5 p31A6 p31A7 p31B0 p31B1 p31B2 p31C0 p31C1 p31C2 p31C3 p31C4 p31C5 p31C6 p31C7 p31D0 p31D1 p31D2 p31E0 p31E1 p31f1 p31f2 p31f3 p31o0 p31n0 p31o1 p31n1 p31o2 p31n2 p31o3 p31n3 p31o4 p31n4 hBp31
      generalize hWy3 : ((p3w1.setCell ⟨sb, 1, none⟩ (.int .i64 G0)).setCell ⟨sb, 2, none⟩ (.int .i64 G1)).setCell ⟨sb, 3, none⟩ (.int .i64 G2) = y3 at *
      clear hWy3
      have q1y3 : w.heap.size < y3.heap.size := by omega
      have q2y3 : ib < y3.heap.size := by omega
      have q3y3 : sb < y3.heap.size := by omega
      have q4y3 : tb < y3.heap.size := by omega
      have q5y3 : v < y3.heap.size := by omega
      have hr : Hid ((0 : Int) = E) := Lib.hid (by rw [← hE.out]; unfold pos0; rw [if_neg (by omega), if_neg (by omega)])
      go_wp2
      go_ret
      exact ⟨ret_int hr.out, Or.inr ⟨hr.out.symm, (by simp [go_sem, *]), (by simp [go_sem, *]), (by simp [go_sem, *]), (by simp [go_sem, *]), (by simp [go_sem, *]), (by simp [go_sem, *]), (by simp [go_sem, *]), (by simp [go_sem, *]), (by simp [go_sem, *]), (by simp [go_sem, *]), (by simp [go_sem, *]), fun q u0 u1 u2 => (sblk (by first | assumption | omega)).trans (hVy3 q u0 u1 u2), (fun j => by simp [go_sem, *]), (fun j => by simp [go_sem, *]), hDy3.set sb 7 _ (Or.inl rfl)⟩⟩
end Go.Proofs.Ytjkhjjmmkdfjmaa
