import Derived.Test.YtjkhjjmmkdfjmaaGTRefCt
import Derived.Test.YtjkhjjmmkdfjmaaGTAdd0
import Derived.Test.YtjkhjjmmkdfjmaaGTRm
import Derived.Outline
namespace Go.Proofs.Ytjkhjjmmkdfjmaa
open Go.ChangeShapes Go.WideShapes Go.ChangeAt Go.RowKit
set_option linter.unusedVariables false
set_option linter.unusedSimpArgs false
attribute [local go_sem ↓] Go.wp_at_zero Go.wp_at_succ
set_option maxHeartbeats 8000000 in
set_option maxRecDepth 100000 in
theorem rent_Mt (sb ib v of n ic cap qa qb : Nat) (L : List Ve) (d o h am g0 g1 g2 k0 k1 k2 day va a0 a1 a2 SA vo mo b0 b1 b2 SB E X Y Z n0 n1 n2 c0 c1 c2 : Int) (fr tz : ByteArray) (pu : Bool) (w : World) (hn : Hid (n = L.length)) (hl : n ≤ 1000000) (hL : Hid (SlRows veV 3 w (some ⟨v, of, none⟩) L)) (r0 : w.cell? ⟨sb, 0, none⟩ = some (.slice (some ⟨ib, 0, none⟩) n ic)) (r1 : w.cell? ⟨sb, 1, none⟩ = some (.int .i64 g0)) (r2 : w.cell? ⟨sb, 2, none⟩ = some (.int .i64 g1)) (r3 : w.cell? ⟨sb, 3, none⟩ = some (.int .i64 g2)) (r4 : w.cell? ⟨sb, 4, none⟩ = some (.int .i64 k0)) (r5 : w.cell? ⟨sb, 5, none⟩ = some (.int .i64 k1)) (r6 : w.cell? ⟨sb, 6, none⟩ = some (.int .i64 k2)) (r7 : w.cell? ⟨sb, 7, none⟩ = some (.int .i64 day)) (xa0 : w.cell? ⟨ib, qa * 3, none⟩ = some (.int .i64 a0)) (xa1 : w.cell? ⟨ib, qa * 3 + 1, none⟩ = some (.int .i64 a1)) (xa2 : w.cell? ⟨ib, qa * 3 + 2, none⟩ = some (.int .i64 a2)) (xb0 : w.cell? ⟨ib, qb * 3, none⟩ = some (.int .i64 b0)) (xb1 : w.cell? ⟨ib, qb * 3 + 1, none⟩ = some (.int .i64 b1)) (xb2 : w.cell? ⟨ib, qb * 3 + 2, none⟩ = some (.int .i64 b2)) (ve0 : w.cell? ⟨v, of + qa * 3 + 1, none⟩ = some (.int .i64 va)) (ve1 : w.cell? ⟨v, of + qb * 3 + 1, none⟩ = some (.int .i64 vo)) (ve2 : w.cell? ⟨v, of + qb * 3 + 2, none⟩ = some (.int .i64 mo)) (vf : ∀ j, w.frozen? ⟨ib, j, none⟩ = false) (rf : ∀ j, w.frozen? ⟨sb, j, none⟩ = false) (li : ib < w.heap.size) (ls : sb < w.heap.size) (lv : v < w.heap.size) (nsi : sb ≠ ib) (nsv : sb ≠ v) (niv : ib ≠ v) (nic : n ≤ ic) (hqa : qa < n) (hF : Hid (fndV fr L = qa)) (hqb : qb < n) (hT : Hid (fndV tz L = qb)) (hG : Hid (gasE 0 0 = 0)) (am1 : 1 ≤ am) (am2 : am ≤ 1000000000) (hcA : Hid (conB a0 a1 a2 = true)) (hSA : Hid (a0 + a1 + a2 = SA)) (u1 : 1 ≤ va) (u2 : va ≤ 1000000000) (hcB : Hid (conB b0 b1 b2 = true)) (hSB : Hid (b0 + b1 + b2 = SB)) (v1 : 1 ≤ vo) (v2 : vo ≤ 1000000000) (m1 : 1 ≤ mo) (m2 : mo ≤ 1000000000) (hE : Hid (pos1 d day am true SA va SB vo mo = E)) (hX : Hid (shareR a0 a1 a2 am = (X, Y, Z)))  (hN : Hid (a0 - X = n0 ∧ a1 - Y = n1 ∧ a2 - Z = n2)) (hC : Hid (b0 + X = c0 ∧ b1 + Y = c1 ∧ b2 + Z = c2)) (hne : qa ≠ qb) : Calls Try.prog 72 #[.slice (some ⟨v, of, none⟩) n cap, .pointer (some ⟨sb, 0, none⟩), .agg #[.int .i64 1, .int .i64 d, .string fr, .string tz, .int .i64 0, .int .i64 0, .int .i64 am, .bool true]] w fun e w' => e = .returned (.int .i64 E) ∧ ((¬ E = 0 ∧ Below w.heap.size w w') ∨ (E = 0 ∧ w'.cell? ⟨sb, 0, none⟩ = some (.slice (some ⟨ib, 0, none⟩) n ic) ∧ w'.cell? ⟨sb, 1, none⟩ = some (.int .i64 g0) ∧ w'.cell? ⟨sb, 2, none⟩ = some (.int .i64 g1) ∧ w'.cell? ⟨sb, 3, none⟩ = some (.int .i64 g2) ∧ w'.cell? ⟨sb, 4, none⟩ = some (.int .i64 k0) ∧ w'.cell? ⟨sb, 5, none⟩ = some (.int .i64 k1) ∧ w'.cell? ⟨sb, 6, none⟩ = some (.int .i64 k2) ∧ w'.cell? ⟨sb, 7, none⟩ = some (.int .i64 d) ∧ w'.cell? ⟨ib, qa * 3, none⟩ = some (.int .i64 n0) ∧ w'.cell? ⟨ib, qa * 3 + 1, none⟩ = some (.int .i64 n1) ∧ w'.cell? ⟨ib, qa * 3 + 2, none⟩ = some (.int .i64 n2) ∧ w'.cell? ⟨ib, qb * 3, none⟩ = some (.int .i64 c0) ∧ w'.cell? ⟨ib, qb * 3 + 1, none⟩ = some (.int .i64 c1) ∧ w'.cell? ⟨ib, qb * 3 + 2, none⟩ = some (.int .i64 c2) ∧ (∀ q, q ≠ qa * 3 → q ≠ qa * 3 + 1 → q ≠ qa * 3 + 2 → q ≠ qb * 3 → q ≠ qb * 3 + 1 → q ≠ qb * 3 + 2 → w'.cell? ⟨ib, q, none⟩ = w.cell? ⟨ib, q, none⟩) ∧ (∀ j, w'.frozen? ⟨ib, j, none⟩ = false) ∧ (∀ j, w'.frozen? ⟨sb, j, none⟩ = false) ∧ BelowD sb ib w.heap.size w w')) := by
  have o1 : ib ≠ w.heap.size := by omega
  have o2 : sb ≠ w.heap.size := by omega
  have o3 : ib < w.heap.size + 1 := by omega
  have o4 : sb < w.heap.size + 1 := by omega
  have o5 : v ≠ w.heap.size := by omega
  have o6 : v < w.heap.size + 1 := by omega
  have nis : ib ≠ sb := fun h => nsi h.symm
  have nvs : v ≠ sb := fun h => nsv h.symm
  have nvi : v ≠ ib := fun h => niv h.symm
  have ja1 : (0 : Int) ≤ (qa : Int) := by omega
  have ja2 : (qa : Int) < (n : Int) := by omega
  have ja3 : ¬ (qa : Int) < 0 := by omega
  obtain ⟨ca0, ca1, ca2, ca3⟩ := conB_iff.1 hcA.out
  have sa0 : 0 ≤ SA ∧ SA ≤ 1000000000 := by have := hSA.out; omega
  obtain ⟨sa0, sa1⟩ := sa0
  have jb1 : (0 : Int) ≤ (qb : Int) := by omega
  have jb2 : (qb : Int) < (n : Int) := by omega
  have jb3 : ¬ (qb : Int) < 0 := by omega
  obtain ⟨cb0, cb1, cb2, cb3⟩ := conB_iff.1 hcB.out
  have sb0 : 0 ≤ SB ∧ SB ≤ 1000000000 := by have := hSB.out; omega
  obtain ⟨sb0, sb1⟩ := sb0
  have mvo : mo * vo ≤ 1000000000 * 1000000000 := Int.mul_le_mul m2 v2 (by omega) (by omega)
  have mvo0 : 0 ≤ mo * vo := Int.mul_nonneg (by omega) (by omega)
  have w1 : IntKind.i64.wrap (SB + am) = SB + am := IntWalk.i64_in _ (by omega)
  have w2 : IntKind.i64.wrap (1000 * (SB + am)) = 1000 * (SB + am) := IntWalk.i64_in _ (by omega)
  have w3 : IntKind.i64.wrap (mo * vo) = mo * vo := IntWalk.i64_in _ (by omega)
  obtain ⟨sp0, sp1, sp2, sp3, sp4, sp5, sp6, sp7, sp8, sp9, sp10⟩ : qa * 3 ≠ qb * 3 ∧ qb * 3 ≠ qa * 3 ∧ qa * 3 + 1 ≠ qb * 3 ∧ qb * 3 ≠ qa * 3 + 1 ∧ qb * 3 + 1 ≠ qa * 3 ∧ qa * 3 ≠ qb * 3 + 1 ∧ qa * 3 + 2 ≠ qb * 3 ∧ qb * 3 ≠ qa * 3 + 2 ∧ qb * 3 + 2 ≠ qa * 3 ∧ qa * 3 ≠ qb * 3 + 2 ∧ qb ≠ qa := by refine ⟨?_, ?_, ?_, ?_, ?_, ?_, ?_, ?_, ?_, ?_, ?_⟩ <;> omega
  go_enter Try.func72, Try.ntmps72
  go_upto_region 1 with (fail)
  refine wp_region_held_drew (S := (fun w' => w'.cell? ⟨w.heap.size, 0, none⟩ = some (.int .i64 1) ∧ w'.cell? ⟨w.heap.size, 1, none⟩ = some (.int .i64 d) ∧ w'.cell? ⟨w.heap.size, 2, none⟩ = some (.string fr) ∧ w'.cell? ⟨w.heap.size, 3, none⟩ = some (.string tz) ∧ w'.cell? ⟨w.heap.size, 4, none⟩ = some (.int .i64 0) ∧ w'.cell? ⟨w.heap.size, 5, none⟩ = some (.int .i64 0) ∧ w'.cell? ⟨w.heap.size, 6, none⟩ = some (.int .i64 am) ∧ w'.cell? ⟨w.heap.size, 7, none⟩ = some (.bool true))) (by kernel_rfl) (by simp [go_sem, cP, *]) (fun hHeld => ?_)
  refine tkA 0 11 rfl ?_
  refine tkA 1 12 rfl ?_
  refine tkA 2 13 rfl ?_
  refine tkA 4 15 rfl ?_
  refine tkA 5 16 rfl ?_
  refine tkA 6 17 rfl ?_
  refine rdA 3 rfl (fun K hK => ?_)
  go_simp
  refine (refFind_b L (some ⟨v, of, none⟩) cap n fr qa _ hn hl (hL.out.below (by first | exact ((Below.refl _ _).alloc (Nat.le_refl _) _) | exact (((Below.refl _ _).alloc (Nat.le_refl _) _)).drew)) hF).mono ?_
  rintro e xw1 ⟨rfl, hbx1⟩
  have zx1 := hbx1.size
  try simp at zx1
  obtain ⟨x1A0, x1A1, x1A2, x1A3, x1A4, x1A5, x1A6, x1A7, x1B0, x1B1, x1B2, x1B3, x1B4, x1B5, x1C0, x1C1, x1C2, x1C3, x1C4, x1C5, x1C6, x1C7, x1D0, x1D1, x1D2⟩ : xw1.cell? ⟨w.heap.size, 0, none⟩ = some (.int .i64 1) ∧ xw1.cell? ⟨w.heap.size, 1, none⟩ = some (.int .i64 d) ∧ xw1.cell? ⟨w.heap.size, 2, none⟩ = some (.string fr) ∧ xw1.cell? ⟨w.heap.size, 3, none⟩ = some (.string tz) ∧ xw1.cell? ⟨w.heap.size, 4, none⟩ = some (.int .i64 0) ∧ xw1.cell? ⟨w.heap.size, 5, none⟩ = some (.int .i64 0) ∧ xw1.cell? ⟨w.heap.size, 6, none⟩ = some (.int .i64 am) ∧ xw1.cell? ⟨w.heap.size, 7, none⟩ = some (.bool true) ∧ xw1.cell? ⟨ib, qa * 3, none⟩ = some (.int .i64 a0) ∧ xw1.cell? ⟨ib, qa * 3 + 1, none⟩ = some (.int .i64 a1) ∧ xw1.cell? ⟨ib, qa * 3 + 2, none⟩ = some (.int .i64 a2) ∧ xw1.cell? ⟨ib, qb * 3, none⟩ = some (.int .i64 b0) ∧ xw1.cell? ⟨ib, qb * 3 + 1, none⟩ = some (.int .i64 b1) ∧ xw1.cell? ⟨ib, qb * 3 + 2, none⟩ = some (.int .i64 b2) ∧ xw1.cell? ⟨sb, 0, none⟩ = some (.slice (some ⟨ib, 0, none⟩) n ic) ∧ xw1.cell? ⟨sb, 1, none⟩ = some (.int .i64 g0) ∧ xw1.cell? ⟨sb, 2, none⟩ = some (.int .i64 g1) ∧ xw1.cell? ⟨sb, 3, none⟩ = some (.int .i64 g2) ∧ xw1.cell? ⟨sb, 4, none⟩ = some (.int .i64 k0) ∧ xw1.cell? ⟨sb, 5, none⟩ = some (.int .i64 k1) ∧ xw1.cell? ⟨sb, 6, none⟩ = some (.int .i64 k2) ∧ xw1.cell? ⟨sb, 7, none⟩ = some (.int .i64 day) ∧ xw1.cell? ⟨v, of + qa * 3 + 1, none⟩ = some (.int .i64 va) ∧ xw1.cell? ⟨v, of + qb * 3 + 1, none⟩ = some (.int .i64 vo) ∧ xw1.cell? ⟨v, of + qb * 3 + 2, none⟩ = some (.int .i64 mo) := by refine ⟨?_, ?_, ?_, ?_, ?_, ?_, ?_, ?_, ?_, ?_, ?_, ?_, ?_, ?_, ?_, ?_, ?_, ?_, ?_, ?_, ?_, ?_, ?_, ?_, ?_⟩ <;> (rw [bc1 hbx1]; simp [go_sem, cP, *])
  obtain ⟨x1f1, x1f2⟩ : (∀ j, xw1.frozen? ⟨ib, j, none⟩ = false) ∧ (∀ j, xw1.frozen? ⟨sb, j, none⟩ = false) := by refine ⟨?_, ?_⟩ <;> (intro j; rw [bc2 hbx1]; simp [go_sem, *])
  obtain ⟨x1o0, x1n0, x1t0_0, x1o1, x1n1, x1t1_0, x1o2, x1n2, x1t2_0, x1o3, x1n3, x1t3_0⟩ : w.heap.size < xw1.heap.size ∧ xw1.heap.size ≠ w.heap.size ∧ w.heap.size < xw1.heap.size + 1 ∧ ib < xw1.heap.size ∧ xw1.heap.size ≠ ib ∧ ib < xw1.heap.size + 1 ∧ sb < xw1.heap.size ∧ xw1.heap.size ≠ sb ∧ sb < xw1.heap.size + 1 ∧ v < xw1.heap.size ∧ xw1.heap.size ≠ v ∧ v < xw1.heap.size + 1 := by refine ⟨?_, ?_, ?_, ?_, ?_, ?_, ?_, ?_, ?_, ?_, ?_, ?_⟩ <;> omega
  have hBx1 : Below w.heap.size w xw1 := belA
  clear hbx1 
  go_wp2_with fail
  refine hK.out _ _ (by simp [go_sem, cP, *]) (fun hHeld => ?_)
  clear hK K
  try simp only [Act.put, sA, sB, sC]
  refine rdA 7 rfl (fun K hK => ?_)
  go_simp
  refine (refFind_b L (some ⟨v, of, none⟩) cap n tz qb _ hn hl (hL.out.below (by first | exact hBx1 | exact (hBx1).drew)) hT).mono ?_
  rintro e xw2 ⟨rfl, hbx2⟩
  have zx2 := hbx2.size
  try simp at zx2
  obtain ⟨x2A0, x2A1, x2A2, x2A3, x2A4, x2A5, x2A6, x2A7, x2B0, x2B1, x2B2, x2B3, x2B4, x2B5, x2C0, x2C1, x2C2, x2C3, x2C4, x2C5, x2C6, x2C7, x2D0, x2D1, x2D2⟩ : xw2.cell? ⟨w.heap.size, 0, none⟩ = some (.int .i64 1) ∧ xw2.cell? ⟨w.heap.size, 1, none⟩ = some (.int .i64 d) ∧ xw2.cell? ⟨w.heap.size, 2, none⟩ = some (.string fr) ∧ xw2.cell? ⟨w.heap.size, 3, none⟩ = some (.string tz) ∧ xw2.cell? ⟨w.heap.size, 4, none⟩ = some (.int .i64 0) ∧ xw2.cell? ⟨w.heap.size, 5, none⟩ = some (.int .i64 0) ∧ xw2.cell? ⟨w.heap.size, 6, none⟩ = some (.int .i64 am) ∧ xw2.cell? ⟨w.heap.size, 7, none⟩ = some (.bool true) ∧ xw2.cell? ⟨ib, qa * 3, none⟩ = some (.int .i64 a0) ∧ xw2.cell? ⟨ib, qa * 3 + 1, none⟩ = some (.int .i64 a1) ∧ xw2.cell? ⟨ib, qa * 3 + 2, none⟩ = some (.int .i64 a2) ∧ xw2.cell? ⟨ib, qb * 3, none⟩ = some (.int .i64 b0) ∧ xw2.cell? ⟨ib, qb * 3 + 1, none⟩ = some (.int .i64 b1) ∧ xw2.cell? ⟨ib, qb * 3 + 2, none⟩ = some (.int .i64 b2) ∧ xw2.cell? ⟨sb, 0, none⟩ = some (.slice (some ⟨ib, 0, none⟩) n ic) ∧ xw2.cell? ⟨sb, 1, none⟩ = some (.int .i64 g0) ∧ xw2.cell? ⟨sb, 2, none⟩ = some (.int .i64 g1) ∧ xw2.cell? ⟨sb, 3, none⟩ = some (.int .i64 g2) ∧ xw2.cell? ⟨sb, 4, none⟩ = some (.int .i64 k0) ∧ xw2.cell? ⟨sb, 5, none⟩ = some (.int .i64 k1) ∧ xw2.cell? ⟨sb, 6, none⟩ = some (.int .i64 k2) ∧ xw2.cell? ⟨sb, 7, none⟩ = some (.int .i64 day) ∧ xw2.cell? ⟨v, of + qa * 3 + 1, none⟩ = some (.int .i64 va) ∧ xw2.cell? ⟨v, of + qb * 3 + 1, none⟩ = some (.int .i64 vo) ∧ xw2.cell? ⟨v, of + qb * 3 + 2, none⟩ = some (.int .i64 mo) := by refine ⟨?_, ?_, ?_, ?_, ?_, ?_, ?_, ?_, ?_, ?_, ?_, ?_, ?_, ?_, ?_, ?_, ?_, ?_, ?_, ?_, ?_, ?_, ?_, ?_, ?_⟩ <;> (rw [bc1 hbx2]; simp [go_sem, cP, *])
  obtain ⟨x2f1, x2f2⟩ : (∀ j, xw2.frozen? ⟨ib, j, none⟩ = false) ∧ (∀ j, xw2.frozen? ⟨sb, j, none⟩ = false) := by refine ⟨?_, ?_⟩ <;> (intro j; rw [bc2 hbx2]; simp [go_sem, *])
  obtain ⟨x2o0, x2n0, x2t0_0, x2o1, x2n1, x2t1_0, x2o2, x2n2, x2t2_0, x2o3, x2n3, x2t3_0⟩ : w.heap.size < xw2.heap.size ∧ xw2.heap.size ≠ w.heap.size ∧ w.heap.size < xw2.heap.size + 1 ∧ ib < xw2.heap.size ∧ xw2.heap.size ≠ ib ∧ ib < xw2.heap.size + 1 ∧ sb < xw2.heap.size ∧ xw2.heap.size ≠ sb ∧ sb < xw2.heap.size + 1 ∧ v < xw2.heap.size ∧ xw2.heap.size ≠ v ∧ v < xw2.heap.size + 1 := by refine ⟨?_, ?_, ?_, ?_, ?_, ?_, ?_, ?_, ?_, ?_, ?_, ?_⟩ <;> omega
  have hBx2 : Below w.heap.size w xw2 := belA
  clear hbx2 x1A0 x1A1 x1A2 x1A3 x1A4 x1A5 x1A6 x1A7 x1B0 x1B1 x1B2 x1B3 x1B4 x1B5 x1C0 x1C1 x1C2 x1C3 x1C4 x1C5 x1C6 x1C7 x1D0 x1D1 x1D2 x1f1 x1f2 x1o0 x1n0 x1t0_0 x1o1 x1n1 x1t1_0 x1o2 x1n2 x1t2_0 x1o3 x1n3 x1t3_0 hBx1
  go_wp2_with fail
  refine hK.out _ _ (by simp [go_sem, cP, *]) (fun hHeld => ?_)
  clear hK K
  try simp only [Act.put, sA, sB, sC]
  refine tkA 8 7 rfl ?_
  refine tkA 9 8 rfl ?_
  refine wpAnyH_done (by kernel_rfl) ?_ _
  go_upto_region 4 with (fail)
  refine wp_region_held_drew (S := (fun w' => w'.cell? ⟨w.heap.size, 0, none⟩ = some (.int .i64 1) ∧ w'.cell? ⟨w.heap.size, 1, none⟩ = some (.int .i64 d) ∧ w'.cell? ⟨w.heap.size, 2, none⟩ = some (.string fr) ∧ w'.cell? ⟨w.heap.size, 3, none⟩ = some (.string tz) ∧ w'.cell? ⟨w.heap.size, 4, none⟩ = some (.int .i64 0) ∧ w'.cell? ⟨w.heap.size, 5, none⟩ = some (.int .i64 0) ∧ w'.cell? ⟨w.heap.size, 6, none⟩ = some (.int .i64 am) ∧ w'.cell? ⟨w.heap.size, 7, none⟩ = some (.bool true) ∧ w'.cell? ⟨sb, 7, none⟩ = some (.int .i64 day))) (by kernel_rfl) (by simp [go_sem, cP, *]) (fun hHeld => ?_)
  refine tkA 0 35 rfl ?_
  refine tkA 1 36 rfl ?_
  refine tkA 2 37 rfl ?_
  refine tkA 3 38 rfl ?_
  refine tkA 4 39 rfl ?_
  refine tkA 5 40 rfl ?_
  refine tkA 6 41 rfl ?_
  refine wpAnyH_done (by kernel_rfl) ?_ _
  by_cases hd : d < day
  · have hr : Hid ((9 : Int) = E) := Lib.hid (by rw [← hE.out]; unfold pos1; rw [if_pos hd])
    go_wp2
    go_ret
    exact ⟨ret_int hr.out, Or.inl ⟨by have := hr.out; omega, belA⟩⟩
  · skip
    go_wp2_with fail
    refine (refPure_any 0 0 am 0 0 am _ hG am1 am2 (Lib.hid (by simp)) (Lib.hid (by simp)) (Lib.hid (by omega))).mono ?_
    rintro e xw3 ⟨rfl, hbx3⟩
    have zx3 := hbx3.size
    try simp at zx3
    obtain ⟨x3A0, x3A1, x3A2, x3A3, x3A4, x3A5, x3A6, x3A7, x3B0, x3B1, x3B2, x3B3, x3B4, x3B5, x3C0, x3C1, x3C2, x3C3, x3C4, x3C5, x3C6, x3C7, x3D0, x3D1, x3D2⟩ : xw3.cell? ⟨w.heap.size, 0, none⟩ = some (.int .i64 1) ∧ xw3.cell? ⟨w.heap.size, 1, none⟩ = some (.int .i64 d) ∧ xw3.cell? ⟨w.heap.size, 2, none⟩ = some (.string fr) ∧ xw3.cell? ⟨w.heap.size, 3, none⟩ = some (.string tz) ∧ xw3.cell? ⟨w.heap.size, 4, none⟩ = some (.int .i64 0) ∧ xw3.cell? ⟨w.heap.size, 5, none⟩ = some (.int .i64 0) ∧ xw3.cell? ⟨w.heap.size, 6, none⟩ = some (.int .i64 am) ∧ xw3.cell? ⟨w.heap.size, 7, none⟩ = some (.bool true) ∧ xw3.cell? ⟨ib, qa * 3, none⟩ = some (.int .i64 a0) ∧ xw3.cell? ⟨ib, qa * 3 + 1, none⟩ = some (.int .i64 a1) ∧ xw3.cell? ⟨ib, qa * 3 + 2, none⟩ = some (.int .i64 a2) ∧ xw3.cell? ⟨ib, qb * 3, none⟩ = some (.int .i64 b0) ∧ xw3.cell? ⟨ib, qb * 3 + 1, none⟩ = some (.int .i64 b1) ∧ xw3.cell? ⟨ib, qb * 3 + 2, none⟩ = some (.int .i64 b2) ∧ xw3.cell? ⟨sb, 0, none⟩ = some (.slice (some ⟨ib, 0, none⟩) n ic) ∧ xw3.cell? ⟨sb, 1, none⟩ = some (.int .i64 g0) ∧ xw3.cell? ⟨sb, 2, none⟩ = some (.int .i64 g1) ∧ xw3.cell? ⟨sb, 3, none⟩ = some (.int .i64 g2) ∧ xw3.cell? ⟨sb, 4, none⟩ = some (.int .i64 k0) ∧ xw3.cell? ⟨sb, 5, none⟩ = some (.int .i64 k1) ∧ xw3.cell? ⟨sb, 6, none⟩ = some (.int .i64 k2) ∧ xw3.cell? ⟨sb, 7, none⟩ = some (.int .i64 day) ∧ xw3.cell? ⟨v, of + qa * 3 + 1, none⟩ = some (.int .i64 va) ∧ xw3.cell? ⟨v, of + qb * 3 + 1, none⟩ = some (.int .i64 vo) ∧ xw3.cell? ⟨v, of + qb * 3 + 2, none⟩ = some (.int .i64 mo) := by refine ⟨?_, ?_, ?_, ?_, ?_, ?_, ?_, ?_, ?_, ?_, ?_, ?_, ?_, ?_, ?_, ?_, ?_, ?_, ?_, ?_, ?_, ?_, ?_, ?_, ?_⟩ <;> (rw [bc1 hbx3]; simp [go_sem, cP, *])
    obtain ⟨x3f1, x3f2⟩ : (∀ j, xw3.frozen? ⟨ib, j, none⟩ = false) ∧ (∀ j, xw3.frozen? ⟨sb, j, none⟩ = false) := by refine ⟨?_, ?_⟩ <;> (intro j; rw [bc2 hbx3]; simp [go_sem, *])
    obtain ⟨x3o0, x3n0, x3t0_0, x3o1, x3n1, x3t1_0, x3o2, x3n2, x3t2_0, x3o3, x3n3, x3t3_0⟩ : w.heap.size < xw3.heap.size ∧ xw3.heap.size ≠ w.heap.size ∧ w.heap.size < xw3.heap.size + 1 ∧ ib < xw3.heap.size ∧ xw3.heap.size ≠ ib ∧ ib < xw3.heap.size + 1 ∧ sb < xw3.heap.size ∧ xw3.heap.size ≠ sb ∧ sb < xw3.heap.size + 1 ∧ v < xw3.heap.size ∧ xw3.heap.size ≠ v ∧ v < xw3.heap.size + 1 := by refine ⟨?_, ?_, ?_, ?_, ?_, ?_, ?_, ?_, ?_, ?_, ?_, ?_⟩ <;> omega
    have hBx3 : Below w.heap.size w xw3 := belA
    clear hbx3 x2A0 x2A1 x2A2 x2A3 x2A4 x2A5 x2A6 x2A7 x2B0 x2B1 x2B2 x2B3 x2B4 x2B5 x2C0 x2C1 x2C2 x2C3 x2C4 x2C5 x2C6 x2C7 x2D0 x2D1 x2D2 x2f1 x2f2 x2o0 x2n0 x2t0_0 x2o1 x2n1 x2t1_0 x2o2 x2n2 x2t2_0 x2o3 x2n3 x2t3_0 hBx2
    go_upto_region 8 with (fail)
    obtain ⟨y0A0, y0A1, y0A2, y0A3, y0A4, y0A5, y0A6, y0A7, y0B0, y0B1, y0B2, y0B3, y0B4, y0B5, y0C0, y0C1, y0C2, y0C3, y0C4, y0C5, y0C6, y0C7, y0D0, y0D1, y0D2, y0E0, y0E1, y0E2⟩ : (xw3.alloc (.cells #[.int .i64 0, .int .i64 0, .int .i64 am] 49)).cell? ⟨w.heap.size, 0, none⟩ = some (.int .i64 1) ∧ (xw3.alloc (.cells #[.int .i64 0, .int .i64 0, .int .i64 am] 49)).cell? ⟨w.heap.size, 1, none⟩ = some (.int .i64 d) ∧ (xw3.alloc (.cells #[.int .i64 0, .int .i64 0, .int .i64 am] 49)).cell? ⟨w.heap.size, 2, none⟩ = some (.string fr) ∧ (xw3.alloc (.cells #[.int .i64 0, .int .i64 0, .int .i64 am] 49)).cell? ⟨w.heap.size, 3, none⟩ = some (.string tz) ∧ (xw3.alloc (.cells #[.int .i64 0, .int .i64 0, .int .i64 am] 49)).cell? ⟨w.heap.size, 4, none⟩ = some (.int .i64 0) ∧ (xw3.alloc (.cells #[.int .i64 0, .int .i64 0, .int .i64 am] 49)).cell? ⟨w.heap.size, 5, none⟩ = some (.int .i64 0) ∧ (xw3.alloc (.cells #[.int .i64 0, .int .i64 0, .int .i64 am] 49)).cell? ⟨w.heap.size, 6, none⟩ = some (.int .i64 am) ∧ (xw3.alloc (.cells #[.int .i64 0, .int .i64 0, .int .i64 am] 49)).cell? ⟨w.heap.size, 7, none⟩ = some (.bool true) ∧ (xw3.alloc (.cells #[.int .i64 0, .int .i64 0, .int .i64 am] 49)).cell? ⟨ib, qa * 3, none⟩ = some (.int .i64 a0) ∧ (xw3.alloc (.cells #[.int .i64 0, .int .i64 0, .int .i64 am] 49)).cell? ⟨ib, qa * 3 + 1, none⟩ = some (.int .i64 a1) ∧ (xw3.alloc (.cells #[.int .i64 0, .int .i64 0, .int .i64 am] 49)).cell? ⟨ib, qa * 3 + 2, none⟩ = some (.int .i64 a2) ∧ (xw3.alloc (.cells #[.int .i64 0, .int .i64 0, .int .i64 am] 49)).cell? ⟨ib, qb * 3, none⟩ = some (.int .i64 b0) ∧ (xw3.alloc (.cells #[.int .i64 0, .int .i64 0, .int .i64 am] 49)).cell? ⟨ib, qb * 3 + 1, none⟩ = some (.int .i64 b1) ∧ (xw3.alloc (.cells #[.int .i64 0, .int .i64 0, .int .i64 am] 49)).cell? ⟨ib, qb * 3 + 2, none⟩ = some (.int .i64 b2) ∧ (xw3.alloc (.cells #[.int .i64 0, .int .i64 0, .int .i64 am] 49)).cell? ⟨sb, 0, none⟩ = some (.slice (some ⟨ib, 0, none⟩) n ic) ∧ (xw3.alloc (.cells #[.int .i64 0, .int .i64 0, .int .i64 am] 49)).cell? ⟨sb, 1, none⟩ = some (.int .i64 g0) ∧ (xw3.alloc (.cells #[.int .i64 0, .int .i64 0, .int .i64 am] 49)).cell? ⟨sb, 2, none⟩ = some (.int .i64 g1) ∧ (xw3.alloc (.cells #[.int .i64 0, .int .i64 0, .int .i64 am] 49)).cell? ⟨sb, 3, none⟩ = some (.int .i64 g2) ∧ (xw3.alloc (.cells #[.int .i64 0, .int .i64 0, .int .i64 am] 49)).cell? ⟨sb, 4, none⟩ = some (.int .i64 k0) ∧ (xw3.alloc (.cells #[.int .i64 0, .int .i64 0, .int .i64 am] 49)).cell? ⟨sb, 5, none⟩ = some (.int .i64 k1) ∧ (xw3.alloc (.cells #[.int .i64 0, .int .i64 0, .int .i64 am] 49)).cell? ⟨sb, 6, none⟩ = some (.int .i64 k2) ∧ (xw3.alloc (.cells #[.int .i64 0, .int .i64 0, .int .i64 am] 49)).cell? ⟨sb, 7, none⟩ = some (.int .i64 day) ∧ (xw3.alloc (.cells #[.int .i64 0, .int .i64 0, .int .i64 am] 49)).cell? ⟨xw3.heap.size, 0, none⟩ = some (.int .i64 0) ∧ (xw3.alloc (.cells #[.int .i64 0, .int .i64 0, .int .i64 am] 49)).cell? ⟨xw3.heap.size, 1, none⟩ = some (.int .i64 0) ∧ (xw3.alloc (.cells #[.int .i64 0, .int .i64 0, .int .i64 am] 49)).cell? ⟨xw3.heap.size, 2, none⟩ = some (.int .i64 am) ∧ (xw3.alloc (.cells #[.int .i64 0, .int .i64 0, .int .i64 am] 49)).cell? ⟨v, of + qa * 3 + 1, none⟩ = some (.int .i64 va) ∧ (xw3.alloc (.cells #[.int .i64 0, .int .i64 0, .int .i64 am] 49)).cell? ⟨v, of + qb * 3 + 1, none⟩ = some (.int .i64 vo) ∧ (xw3.alloc (.cells #[.int .i64 0, .int .i64 0, .int .i64 am] 49)).cell? ⟨v, of + qb * 3 + 2, none⟩ = some (.int .i64 mo) := by refine ⟨?_, ?_, ?_, ?_, ?_, ?_, ?_, ?_, ?_, ?_, ?_, ?_, ?_, ?_, ?_, ?_, ?_, ?_, ?_, ?_, ?_, ?_, ?_, ?_, ?_, ?_, ?_, ?_⟩ <;> (simp [go_sem, cP, *])
    obtain ⟨y0f1, y0f2, y0f3⟩ : (∀ j, (xw3.alloc (.cells #[.int .i64 0, .int .i64 0, .int .i64 am] 49)).frozen? ⟨ib, j, none⟩ = false) ∧ (∀ j, (xw3.alloc (.cells #[.int .i64 0, .int .i64 0, .int .i64 am] 49)).frozen? ⟨sb, j, none⟩ = false) ∧ (∀ j, (xw3.alloc (.cells #[.int .i64 0, .int .i64 0, .int .i64 am] 49)).frozen? ⟨xw3.heap.size, j, none⟩ = false) := by refine ⟨?_, ?_, ?_⟩ <;> (intro j; simp [go_sem, *])
    have hzy0 : (xw3.alloc (.cells #[.int .i64 0, .int .i64 0, .int .i64 am] 49)).heap.size = xw3.heap.size + 1 := by simp
    have hBy0 : Below w.heap.size w (xw3.alloc (.cells #[.int .i64 0, .int .i64 0, .int .i64 am] 49)) := hBx3.alloc hBx3.size _
    generalize hWy0 : xw3.alloc (.cells #[.int .i64 0, .int .i64 0, .int .i64 am] 49) = y0 at *
    clear hWy0
    have ly0 : w.heap.size < xw3.heap.size := by omega
    have ly1 : ib < xw3.heap.size := by omega
    have ly2 : sb < xw3.heap.size := by omega
    have ly3 : v < xw3.heap.size := by omega
    clear x3A0 x3A1 x3A2 x3A3 x3A4 x3A5 x3A6 x3A7 x3B0 x3B1 x3B2 x3B3 x3B4 x3B5 x3C0 x3C1 x3C2 x3C3 x3C4 x3C5 x3C6 x3C7 x3D0 x3D1 x3D2 x3f1 x3f2 x3o0 x3n0 x3t0_0 x3o1 x3n1 x3t1_0 x3o2 x3n2 x3t2_0 x3o3 x3n3 x3t3_0 hBx3
    generalize htb : xw3.heap.size = tb at *
    clear htb
    have e1 : w.heap.size ≠ tb := by omega
    have e2 : ib ≠ tb := by omega
    have e3 : sb ≠ tb := by omega
    have e4 : tb ≠ w.heap.size := by omega
    have e5 : tb ≠ ib := by omega
    have e6 : tb ≠ sb := by omega
    have e7 : v ≠ tb := by omega
    have e8 : tb ≠ v := by omega
    have q1y0 : w.heap.size < y0.heap.size := by omega
    have q2y0 : ib < y0.heap.size := by omega
    have q3y0 : sb < y0.heap.size := by omega
    have q4y0 : tb < y0.heap.size := by omega
    have q5y0 : v < y0.heap.size := by omega
    refine wp_region_held_drew (S := (fun w' => w'.cell? ⟨w.heap.size, 6, none⟩ = some (.int .i64 am) ∧ w'.cell? ⟨ib, qa * 3, none⟩ = some (.int .i64 a0) ∧ w'.cell? ⟨ib, qa * 3 + 1, none⟩ = some (.int .i64 a1) ∧ w'.cell? ⟨ib, qa * 3 + 2, none⟩ = some (.int .i64 a2) ∧ w'.cell? ⟨sb, 0, none⟩ = some (.slice (some ⟨ib, 0, none⟩) n ic))) (by kernel_rfl) (by simp [go_sem, cP, *]) (fun hHeld => ?_)
    refine tkA 0 50 rfl ?_
    refine tkA 1 51 rfl ?_
    refine tkA 2 52 rfl ?_
    refine tkA 3 53 rfl ?_
    refine tkA 4 54 rfl ?_
    refine tkA 5 55 rfl ?_
    refine tkA 6 56 rfl ?_
    refine tkA 8 58 rfl ?_
    refine tkA 9 59 rfl ?_
    refine rdA 7 rfl (fun K hK => ?_)
    go_simp
    refine (refSum_ok a0 a1 a2 SA _ hcA hSA).mono ?_
    rintro e p1w1 ⟨rfl, hbp11⟩
    have zp11 := hbp11.size
    try simp at zp11
    obtain ⟨p11A0, p11A1, p11A2, p11A3, p11A4, p11A5, p11A6, p11A7, p11B0, p11B1, p11B2, p11B3, p11B4, p11B5, p11C0, p11C1, p11C2, p11C3, p11C4, p11C5, p11C6, p11C7, p11D0, p11D1, p11D2, p11E0, p11E1, p11E2⟩ : p1w1.cell? ⟨w.heap.size, 0, none⟩ = some (.int .i64 1) ∧ p1w1.cell? ⟨w.heap.size, 1, none⟩ = some (.int .i64 d) ∧ p1w1.cell? ⟨w.heap.size, 2, none⟩ = some (.string fr) ∧ p1w1.cell? ⟨w.heap.size, 3, none⟩ = some (.string tz) ∧ p1w1.cell? ⟨w.heap.size, 4, none⟩ = some (.int .i64 0) ∧ p1w1.cell? ⟨w.heap.size, 5, none⟩ = some (.int .i64 0) ∧ p1w1.cell? ⟨w.heap.size, 6, none⟩ = some (.int .i64 am) ∧ p1w1.cell? ⟨w.heap.size, 7, none⟩ = some (.bool true) ∧ p1w1.cell? ⟨ib, qa * 3, none⟩ = some (.int .i64 a0) ∧ p1w1.cell? ⟨ib, qa * 3 + 1, none⟩ = some (.int .i64 a1) ∧ p1w1.cell? ⟨ib, qa * 3 + 2, none⟩ = some (.int .i64 a2) ∧ p1w1.cell? ⟨ib, qb * 3, none⟩ = some (.int .i64 b0) ∧ p1w1.cell? ⟨ib, qb * 3 + 1, none⟩ = some (.int .i64 b1) ∧ p1w1.cell? ⟨ib, qb * 3 + 2, none⟩ = some (.int .i64 b2) ∧ p1w1.cell? ⟨sb, 0, none⟩ = some (.slice (some ⟨ib, 0, none⟩) n ic) ∧ p1w1.cell? ⟨sb, 1, none⟩ = some (.int .i64 g0) ∧ p1w1.cell? ⟨sb, 2, none⟩ = some (.int .i64 g1) ∧ p1w1.cell? ⟨sb, 3, none⟩ = some (.int .i64 g2) ∧ p1w1.cell? ⟨sb, 4, none⟩ = some (.int .i64 k0) ∧ p1w1.cell? ⟨sb, 5, none⟩ = some (.int .i64 k1) ∧ p1w1.cell? ⟨sb, 6, none⟩ = some (.int .i64 k2) ∧ p1w1.cell? ⟨sb, 7, none⟩ = some (.int .i64 day) ∧ p1w1.cell? ⟨tb, 0, none⟩ = some (.int .i64 0) ∧ p1w1.cell? ⟨tb, 1, none⟩ = some (.int .i64 0) ∧ p1w1.cell? ⟨tb, 2, none⟩ = some (.int .i64 am) ∧ p1w1.cell? ⟨v, of + qa * 3 + 1, none⟩ = some (.int .i64 va) ∧ p1w1.cell? ⟨v, of + qb * 3 + 1, none⟩ = some (.int .i64 vo) ∧ p1w1.cell? ⟨v, of + qb * 3 + 2, none⟩ = some (.int .i64 mo) := by refine ⟨?_, ?_, ?_, ?_, ?_, ?_, ?_, ?_, ?_, ?_, ?_, ?_, ?_, ?_, ?_, ?_, ?_, ?_, ?_, ?_, ?_, ?_, ?_, ?_, ?_, ?_, ?_, ?_⟩ <;> (rw [bc1 hbp11]; simp [go_sem, cP, *])
    obtain ⟨p11f1, p11f2, p11f3⟩ : (∀ j, p1w1.frozen? ⟨ib, j, none⟩ = false) ∧ (∀ j, p1w1.frozen? ⟨sb, j, none⟩ = false) ∧ (∀ j, p1w1.frozen? ⟨tb, j, none⟩ = false) := by refine ⟨?_, ?_, ?_⟩ <;> (intro j; rw [bc2 hbp11]; simp [go_sem, *])
    obtain ⟨p11o0, p11n0, p11o1, p11n1, p11o2, p11n2, p11o3, p11n3, p11o4, p11n4⟩ : w.heap.size < p1w1.heap.size ∧ p1w1.heap.size ≠ w.heap.size ∧ ib < p1w1.heap.size ∧ p1w1.heap.size ≠ ib ∧ sb < p1w1.heap.size ∧ p1w1.heap.size ≠ sb ∧ tb < p1w1.heap.size ∧ p1w1.heap.size ≠ tb ∧ v < p1w1.heap.size ∧ p1w1.heap.size ≠ v := by refine ⟨?_, ?_, ?_, ?_, ?_, ?_, ?_, ?_, ?_, ?_⟩ <;> omega
    have hBp11 : Below y0.heap.size y0 p1w1 := belA
    clear hbp11 y0A0 y0A1 y0A2 y0A3 y0A4 y0A5 y0A6 y0A7 y0B0 y0B1 y0B2 y0B3 y0B4 y0B5 y0C0 y0C1 y0C2 y0C3 y0C4 y0C5 y0C6 y0C7 y0D0 y0D1 y0D2 y0E0 y0E1 y0E2 y0f1 y0f2 y0f3 q1y0 q2y0 q3y0 q4y0 q5y0
    go_wp2_with fail
    refine hK.out _ _ (by simp [go_sem, cP, *]) (fun hHeld => ?_)
    clear hK K
    try simp only [Act.put, sA, sB, sC]
    refine tkA 10 60 rfl ?_
    refine wpAnyH_done (by kernel_rfl) ?_ _
    have hBp1w1 : Below w.heap.size w p1w1 := hBy0.trans (hBp11.mono (by omega))
    by_cases hs : SA < am
    · have hr : Hid ((20 : Int) = E) := Lib.hid (by rw [← hE.out]; unfold pos1; rw [if_neg (by omega), if_pos hs])
      go_wp2
      go_ret
      exact ⟨ret_int hr.out, Or.inl ⟨by have := hr.out; omega, (by first | exact hBp1w1 | exact hBp1w1.drew)⟩⟩
    · skip
      obtain ⟨-, ⟨X0, X1, -, -⟩, ⟨Y0, Y1, -, -⟩, Z0, Z1, -, -⟩ := share_ok hcA.out (by omega) (by have := hSA.out; omega) hX.out
      have le : Hid (am ≤ a0 + a1 + a2) := Lib.hid (by have := hSA.out; omega)
      go_upto_region 10 with (fail)
      refine wp_region_held_drew (S := (fun w' => w'.cell? ⟨w.heap.size, 6, none⟩ = some (.int .i64 am) ∧ w'.cell? ⟨ib, qa * 3, none⟩ = some (.int .i64 a0) ∧ w'.cell? ⟨ib, qa * 3 + 1, none⟩ = some (.int .i64 a1) ∧ w'.cell? ⟨ib, qa * 3 + 2, none⟩ = some (.int .i64 a2) ∧ w'.cell? ⟨sb, 0, none⟩ = some (.slice (some ⟨ib, 0, none⟩) n ic))) (by kernel_rfl) (by simp [go_sem, cP, *]) (fun hHeld => ?_)
      refine tkA 0 61 rfl ?_
      refine tkA 1 62 rfl ?_
      refine tkA 2 63 rfl ?_
      refine tkA 3 64 rfl ?_
      refine tkA 4 65 rfl ?_
      refine tkA 5 66 rfl ?_
      refine tkA 6 67 rfl ?_
      refine tkA 7 68 rfl ?_
      refine tkA 8 69 rfl ?_
      refine rdA 9 rfl (fun K hK => ?_)
      go_simp
      refine (refShare_any a0 a1 a2 am X Y Z _ hcA (by omega) le hX).mono ?_
      rintro e p2w1 ⟨rfl, hbp21⟩
      have zp21 := hbp21.size
      try simp at zp21
      obtain ⟨p21A0, p21A1, p21A2, p21A3, p21A4, p21A5, p21A6, p21A7, p21B0, p21B1, p21B2, p21B3, p21B4, p21B5, p21C0, p21C1, p21C2, p21C3, p21C4, p21C5, p21C6, p21C7, p21D0, p21D1, p21D2, p21E0, p21E1, p21E2⟩ : p2w1.cell? ⟨w.heap.size, 0, none⟩ = some (.int .i64 1) ∧ p2w1.cell? ⟨w.heap.size, 1, none⟩ = some (.int .i64 d) ∧ p2w1.cell? ⟨w.heap.size, 2, none⟩ = some (.string fr) ∧ p2w1.cell? ⟨w.heap.size, 3, none⟩ = some (.string tz) ∧ p2w1.cell? ⟨w.heap.size, 4, none⟩ = some (.int .i64 0) ∧ p2w1.cell? ⟨w.heap.size, 5, none⟩ = some (.int .i64 0) ∧ p2w1.cell? ⟨w.heap.size, 6, none⟩ = some (.int .i64 am) ∧ p2w1.cell? ⟨w.heap.size, 7, none⟩ = some (.bool true) ∧ p2w1.cell? ⟨ib, qa * 3, none⟩ = some (.int .i64 a0) ∧ p2w1.cell? ⟨ib, qa * 3 + 1, none⟩ = some (.int .i64 a1) ∧ p2w1.cell? ⟨ib, qa * 3 + 2, none⟩ = some (.int .i64 a2) ∧ p2w1.cell? ⟨ib, qb * 3, none⟩ = some (.int .i64 b0) ∧ p2w1.cell? ⟨ib, qb * 3 + 1, none⟩ = some (.int .i64 b1) ∧ p2w1.cell? ⟨ib, qb * 3 + 2, none⟩ = some (.int .i64 b2) ∧ p2w1.cell? ⟨sb, 0, none⟩ = some (.slice (some ⟨ib, 0, none⟩) n ic) ∧ p2w1.cell? ⟨sb, 1, none⟩ = some (.int .i64 g0) ∧ p2w1.cell? ⟨sb, 2, none⟩ = some (.int .i64 g1) ∧ p2w1.cell? ⟨sb, 3, none⟩ = some (.int .i64 g2) ∧ p2w1.cell? ⟨sb, 4, none⟩ = some (.int .i64 k0) ∧ p2w1.cell? ⟨sb, 5, none⟩ = some (.int .i64 k1) ∧ p2w1.cell? ⟨sb, 6, none⟩ = some (.int .i64 k2) ∧ p2w1.cell? ⟨sb, 7, none⟩ = some (.int .i64 day) ∧ p2w1.cell? ⟨tb, 0, none⟩ = some (.int .i64 0) ∧ p2w1.cell? ⟨tb, 1, none⟩ = some (.int .i64 0) ∧ p2w1.cell? ⟨tb, 2, none⟩ = some (.int .i64 am) ∧ p2w1.cell? ⟨v, of + qa * 3 + 1, none⟩ = some (.int .i64 va) ∧ p2w1.cell? ⟨v, of + qb * 3 + 1, none⟩ = some (.int .i64 vo) ∧ p2w1.cell? ⟨v, of + qb * 3 + 2, none⟩ = some (.int .i64 mo) := by refine ⟨?_, ?_, ?_, ?_, ?_, ?_, ?_, ?_, ?_, ?_, ?_, ?_, ?_, ?_, ?_, ?_, ?_, ?_, ?_, ?_, ?_, ?_, ?_, ?_, ?_, ?_, ?_, ?_⟩ <;> (rw [bc1 hbp21]; simp [go_sem, cP, *])
      obtain ⟨p21f1, p21f2, p21f3⟩ : (∀ j, p2w1.frozen? ⟨ib, j, none⟩ = false) ∧ (∀ j, p2w1.frozen? ⟨sb, j, none⟩ = false) ∧ (∀ j, p2w1.frozen? ⟨tb, j, none⟩ = false) := by refine ⟨?_, ?_, ?_⟩ <;> (intro j; rw [bc2 hbp21]; simp [go_sem, *])
      obtain ⟨p21o0, p21n0, p21o1, p21n1, p21o2, p21n2, p21o3, p21n3, p21o4, p21n4⟩ : w.heap.size < p2w1.heap.size ∧ p2w1.heap.size ≠ w.heap.size ∧ ib < p2w1.heap.size ∧ p2w1.heap.size ≠ ib ∧ sb < p2w1.heap.size ∧ p2w1.heap.size ≠ sb ∧ tb < p2w1.heap.size ∧ p2w1.heap.size ≠ tb ∧ v < p2w1.heap.size ∧ p2w1.heap.size ≠ v := by refine ⟨?_, ?_, ?_, ?_, ?_, ?_, ?_, ?_, ?_, ?_⟩ <;> omega
      have hBp21 : Below p1w1.heap.size p1w1 p2w1 := belA
      clear hbp21 p11A0 p11A1 p11A2 p11A3 p11A4 p11A5 p11A6 p11A7 p11B0 p11B1 p11B2 p11B3 p11B4 p11B5 p11C0 p11C1 p11C2 p11C3 p11C4 p11C5 p11C6 p11C7 p11D0 p11D1 p11D2 p11E0 p11E1 p11E2 p11f1 p11f2 p11f3 p11o0 p11n0 p11o1 p11n1 p11o2 p11n2 p11o3 p11n3 p11o4 p11n4 hBp11
      go_wp2_with fail
      refine hK.out _ _ (by simp [go_sem, cP, *]) (fun hHeld => ?_)
      clear hK K
      try simp only [Act.put, sA, sB, sC]
      refine rdA 10 rfl (fun K hK => ?_)
      go_simp
      go_wp2_with fail
      refine hK.out _ _ (by simp [go_sem, cP, *]) (fun hHeld => ?_)
      clear hK K
      try simp only [Act.put, sA, sB, sC]
      refine wpAnyH_done (by kernel_rfl) ?_ _
      obtain ⟨y2A0, y2A1, y2A2, y2A3, y2A4, y2A5, y2A6, y2A7, y2B0, y2B1, y2B2, y2B3, y2B4, y2B5, y2C0, y2C1, y2C2, y2C3, y2C4, y2C5, y2C6, y2C7, y2D0, y2D1, y2D2, y2E0, y2E1, y2E2⟩ : (((p2w1.setCell ⟨tb, 0, none⟩ (.int .i64 X)).setCell ⟨tb, 1, none⟩ (.int .i64 Y)).setCell ⟨tb, 2, none⟩ (.int .i64 Z)).cell? ⟨w.heap.size, 0, none⟩ = some (.int .i64 1) ∧ (((p2w1.setCell ⟨tb, 0, none⟩ (.int .i64 X)).setCell ⟨tb, 1, none⟩ (.int .i64 Y)).setCell ⟨tb, 2, none⟩ (.int .i64 Z)).cell? ⟨w.heap.size, 1, none⟩ = some (.int .i64 d) ∧ (((p2w1.setCell ⟨tb, 0, none⟩ (.int .i64 X)).setCell ⟨tb, 1, none⟩ (.int .i64 Y)).setCell ⟨tb, 2, none⟩ (.int .i64 Z)).cell? ⟨w.heap.size, 2, none⟩ = some (.string fr) ∧ (((p2w1.setCell ⟨tb, 0, none⟩ (.int .i64 X)).setCell ⟨tb, 1, none⟩ (.int .i64 Y)).setCell ⟨tb, 2, none⟩ (.int .i64 Z)).cell? ⟨w.heap.size, 3, none⟩ = some (.string tz) ∧ (((p2w1.setCell ⟨tb, 0, none⟩ (.int .i64 X)).setCell ⟨tb, 1, none⟩ (.int .i64 Y)).setCell ⟨tb, 2, none⟩ (.int .i64 Z)).cell? ⟨w.heap.size, 4, none⟩ = some (.int .i64 0) ∧ (((p2w1.setCell ⟨tb, 0, none⟩ (.int .i64 X)).setCell ⟨tb, 1, none⟩ (.int .i64 Y)).setCell ⟨tb, 2, none⟩ (.int .i64 Z)).cell? ⟨w.heap.size, 5, none⟩ = some (.int .i64 0) ∧ (((p2w1.setCell ⟨tb, 0, none⟩ (.int .i64 X)).setCell ⟨tb, 1, none⟩ (.int .i64 Y)).setCell ⟨tb, 2, none⟩ (.int .i64 Z)).cell? ⟨w.heap.size, 6, none⟩ = some (.int .i64 am) ∧ (((p2w1.setCell ⟨tb, 0, none⟩ (.int .i64 X)).setCell ⟨tb, 1, none⟩ (.int .i64 Y)).setCell ⟨tb, 2, none⟩ (.int .i64 Z)).cell? ⟨w.heap.size, 7, none⟩ = some (.bool true) ∧ (((p2w1.setCell ⟨tb, 0, none⟩ (.int .i64 X)).setCell ⟨tb, 1, none⟩ (.int .i64 Y)).setCell ⟨tb, 2, none⟩ (.int .i64 Z)).cell? ⟨ib, qa * 3, none⟩ = some (.int .i64 a0) ∧ (((p2w1.setCell ⟨tb, 0, none⟩ (.int .i64 X)).setCell ⟨tb, 1, none⟩ (.int .i64 Y)).setCell ⟨tb, 2, none⟩ (.int .i64 Z)).cell? ⟨ib, qa * 3 + 1, none⟩ = some (.int .i64 a1) ∧ (((p2w1.setCell ⟨tb, 0, none⟩ (.int .i64 X)).setCell ⟨tb, 1, none⟩ (.int .i64 Y)).setCell ⟨tb, 2, none⟩ (.int .i64 Z)).cell? ⟨ib, qa * 3 + 2, none⟩ = some (.int .i64 a2) ∧ (((p2w1.setCell ⟨tb, 0, none⟩ (.int .i64 X)).setCell ⟨tb, 1, none⟩ (.int .i64 Y)).setCell ⟨tb, 2, none⟩ (.int .i64 Z)).cell? ⟨ib, qb * 3, none⟩ = some (.int .i64 b0) ∧ (((p2w1.setCell ⟨tb, 0, none⟩ (.int .i64 X)).setCell ⟨tb, 1, none⟩ (.int .i64 Y)).setCell ⟨tb, 2, none⟩ (.int .i64 Z)).cell? ⟨ib, qb * 3 + 1, none⟩ = some (.int .i64 b1) ∧ (((p2w1.setCell ⟨tb, 0, none⟩ (.int .i64 X)).setCell ⟨tb, 1, none⟩ (.int .i64 Y)).setCell ⟨tb, 2, none⟩ (.int .i64 Z)).cell? ⟨ib, qb * 3 + 2, none⟩ = some (.int .i64 b2) ∧ (((p2w1.setCell ⟨tb, 0, none⟩ (.int .i64 X)).setCell ⟨tb, 1, none⟩ (.int .i64 Y)).setCell ⟨tb, 2, none⟩ (.int .i64 Z)).cell? ⟨sb, 0, none⟩ = some (.slice (some ⟨ib, 0, none⟩) n ic) ∧ (((p2w1.setCell ⟨tb, 0, none⟩ (.int .i64 X)).setCell ⟨tb, 1, none⟩ (.int .i64 Y)).setCell ⟨tb, 2, none⟩ (.int .i64 Z)).cell? ⟨sb, 1, none⟩ = some (.int .i64 g0) ∧ (((p2w1.setCell ⟨tb, 0, none⟩ (.int .i64 X)).setCell ⟨tb, 1, none⟩ (.int .i64 Y)).setCell ⟨tb, 2, none⟩ (.int .i64 Z)).cell? ⟨sb, 2, none⟩ = some (.int .i64 g1) ∧ (((p2w1.setCell ⟨tb, 0, none⟩ (.int .i64 X)).setCell ⟨tb, 1, none⟩ (.int .i64 Y)).setCell ⟨tb, 2, none⟩ (.int .i64 Z)).cell? ⟨sb, 3, none⟩ = some (.int .i64 g2) ∧ (((p2w1.setCell ⟨tb, 0, none⟩ (.int .i64 X)).setCell ⟨tb, 1, none⟩ (.int .i64 Y)).setCell ⟨tb, 2, none⟩ (.int .i64 Z)).cell? ⟨sb, 4, none⟩ = some (.int .i64 k0) ∧ (((p2w1.setCell ⟨tb, 0, none⟩ (.int .i64 X)).setCell ⟨tb, 1, none⟩ (.int .i64 Y)).setCell ⟨tb, 2, none⟩ (.int .i64 Z)).cell? ⟨sb, 5, none⟩ = some (.int .i64 k1) ∧ (((p2w1.setCell ⟨tb, 0, none⟩ (.int .i64 X)).setCell ⟨tb, 1, none⟩ (.int .i64 Y)).setCell ⟨tb, 2, none⟩ (.int .i64 Z)).cell? ⟨sb, 6, none⟩ = some (.int .i64 k2) ∧ (((p2w1.setCell ⟨tb, 0, none⟩ (.int .i64 X)).setCell ⟨tb, 1, none⟩ (.int .i64 Y)).setCell ⟨tb, 2, none⟩ (.int .i64 Z)).cell? ⟨sb, 7, none⟩ = some (.int .i64 day) ∧ (((p2w1.setCell ⟨tb, 0, none⟩ (.int .i64 X)).setCell ⟨tb, 1, none⟩ (.int .i64 Y)).setCell ⟨tb, 2, none⟩ (.int .i64 Z)).cell? ⟨tb, 0, none⟩ = some (.int .i64 X) ∧ (((p2w1.setCell ⟨tb, 0, none⟩ (.int .i64 X)).setCell ⟨tb, 1, none⟩ (.int .i64 Y)).setCell ⟨tb, 2, none⟩ (.int .i64 Z)).cell? ⟨tb, 1, none⟩ = some (.int .i64 Y) ∧ (((p2w1.setCell ⟨tb, 0, none⟩ (.int .i64 X)).setCell ⟨tb, 1, none⟩ (.int .i64 Y)).setCell ⟨tb, 2, none⟩ (.int .i64 Z)).cell? ⟨tb, 2, none⟩ = some (.int .i64 Z) ∧ (((p2w1.setCell ⟨tb, 0, none⟩ (.int .i64 X)).setCell ⟨tb, 1, none⟩ (.int .i64 Y)).setCell ⟨tb, 2, none⟩ (.int .i64 Z)).cell? ⟨v, of + qa * 3 + 1, none⟩ = some (.int .i64 va) ∧ (((p2w1.setCell ⟨tb, 0, none⟩ (.int .i64 X)).setCell ⟨tb, 1, none⟩ (.int .i64 Y)).setCell ⟨tb, 2, none⟩ (.int .i64 Z)).cell? ⟨v, of + qb * 3 + 1, none⟩ = some (.int .i64 vo) ∧ (((p2w1.setCell ⟨tb, 0, none⟩ (.int .i64 X)).setCell ⟨tb, 1, none⟩ (.int .i64 Y)).setCell ⟨tb, 2, none⟩ (.int .i64 Z)).cell? ⟨v, of + qb * 3 + 2, none⟩ = some (.int .i64 mo) := by refine ⟨?_, ?_, ?_, ?_, ?_, ?_, ?_, ?_, ?_, ?_, ?_, ?_, ?_, ?_, ?_, ?_, ?_, ?_, ?_, ?_, ?_, ?_, ?_, ?_, ?_, ?_, ?_, ?_⟩ <;> (simp [go_sem, cP, *])
      obtain ⟨y2f1, y2f2, y2f3⟩ : (∀ j, (((p2w1.setCell ⟨tb, 0, none⟩ (.int .i64 X)).setCell ⟨tb, 1, none⟩ (.int .i64 Y)).setCell ⟨tb, 2, none⟩ (.int .i64 Z)).frozen? ⟨ib, j, none⟩ = false) ∧ (∀ j, (((p2w1.setCell ⟨tb, 0, none⟩ (.int .i64 X)).setCell ⟨tb, 1, none⟩ (.int .i64 Y)).setCell ⟨tb, 2, none⟩ (.int .i64 Z)).frozen? ⟨sb, j, none⟩ = false) ∧ (∀ j, (((p2w1.setCell ⟨tb, 0, none⟩ (.int .i64 X)).setCell ⟨tb, 1, none⟩ (.int .i64 Y)).setCell ⟨tb, 2, none⟩ (.int .i64 Z)).frozen? ⟨tb, j, none⟩ = false) := by refine ⟨?_, ?_, ?_⟩ <;> (intro j; simp [go_sem, *])
      have hzy2 : (((p2w1.setCell ⟨tb, 0, none⟩ (.int .i64 X)).setCell ⟨tb, 1, none⟩ (.int .i64 Y)).setCell ⟨tb, 2, none⟩ (.int .i64 Z)).heap.size = p2w1.heap.size := by simp
      have hBy2 : Below w.heap.size w (((p2w1.setCell ⟨tb, 0, none⟩ (.int .i64 X)).setCell ⟨tb, 1, none⟩ (.int .i64 Y)).setCell ⟨tb, 2, none⟩ (.int .i64 Z)) := (((hBp1w1.trans (hBp21.mono (by omega))).setCell (by show w.heap.size ≤ tb; omega) _).setCell (by show w.heap.size ≤ tb; omega) _).setCell (by show w.heap.size ≤ tb; omega) _
      have zsy2 : p1w1.heap.size ≤ (((p2w1.setCell ⟨tb, 0, none⟩ (.int .i64 X)).setCell ⟨tb, 1, none⟩ (.int .i64 Y)).setCell ⟨tb, 2, none⟩ (.int .i64 Z)).heap.size := by rw [hzy2]; exact hBp21.size
      clear p21A0 p21A1 p21A2 p21A3 p21A4 p21A5 p21A6 p21A7 p21B0 p21B1 p21B2 p21B3 p21B4 p21B5 p21C0 p21C1 p21C2 p21C3 p21C4 p21C5 p21C6 p21C7 p21D0 p21D1 p21D2 p21E0 p21E1 p21E2 p21f1 p21f2 p21f3 p21o0 p21n0 p21o1 p21n1 p21o2 p21n2 p21o3 p21n3 p21o4 p21n4 hBp21
      generalize hWy2 : ((p2w1.setCell ⟨tb, 0, none⟩ (.int .i64 X)).setCell ⟨tb, 1, none⟩ (.int .i64 Y)).setCell ⟨tb, 2, none⟩ (.int .i64 Z) = y2 at *
      clear hWy2
      have q1y2 : w.heap.size < y2.heap.size := by omega
      have q2y2 : ib < y2.heap.size := by omega
      have q3y2 : sb < y2.heap.size := by omega
      have q4y2 : tb < y2.heap.size := by omega
      have q5y2 : v < y2.heap.size := by omega
      go_upto_region 12 with (fail)
      refine wp_region_held_drew (S := (fun w' => w'.cell? ⟨w.heap.size, 6, none⟩ = some (.int .i64 am) ∧ w'.cell? ⟨ib, qb * 3, none⟩ = some (.int .i64 b0) ∧ w'.cell? ⟨ib, qb * 3 + 1, none⟩ = some (.int .i64 b1) ∧ w'.cell? ⟨ib, qb * 3 + 2, none⟩ = some (.int .i64 b2) ∧ w'.cell? ⟨sb, 0, none⟩ = some (.slice (some ⟨ib, 0, none⟩) n ic))) (by kernel_rfl) (by simp [go_sem, cP, *]) (fun hHeld => ?_)
      refine tkA 0 74 rfl ?_
      refine tkA 1 75 rfl ?_
      refine tkA 2 76 rfl ?_
      refine tkA 3 77 rfl ?_
      refine tkA 4 78 rfl ?_
      refine tkA 5 79 rfl ?_
      refine tkA 6 80 rfl ?_
      refine tkA 8 82 rfl ?_
      refine tkA 9 83 rfl ?_
      refine rdA 7 rfl (fun K hK => ?_)
      go_simp
      refine (refSum_ok b0 b1 b2 SB _ hcB hSB).mono ?_
      rintro e p3w1 ⟨rfl, hbp31⟩
      have zp31 := hbp31.size
      try simp at zp31
      obtain ⟨p31A0, p31A1, p31A2, p31A3, p31A4, p31A5, p31A6, p31A7, p31B0, p31B1, p31B2, p31B3, p31B4, p31B5, p31C0, p31C1, p31C2, p31C3, p31C4, p31C5, p31C6, p31C7, p31D0, p31D1, p31D2, p31E0, p31E1, p31E2⟩ : p3w1.cell? ⟨w.heap.size, 0, none⟩ = some (.int .i64 1) ∧ p3w1.cell? ⟨w.heap.size, 1, none⟩ = some (.int .i64 d) ∧ p3w1.cell? ⟨w.heap.size, 2, none⟩ = some (.string fr) ∧ p3w1.cell? ⟨w.heap.size, 3, none⟩ = some (.string tz) ∧ p3w1.cell? ⟨w.heap.size, 4, none⟩ = some (.int .i64 0) ∧ p3w1.cell? ⟨w.heap.size, 5, none⟩ = some (.int .i64 0) ∧ p3w1.cell? ⟨w.heap.size, 6, none⟩ = some (.int .i64 am) ∧ p3w1.cell? ⟨w.heap.size, 7, none⟩ = some (.bool true) ∧ p3w1.cell? ⟨ib, qa * 3, none⟩ = some (.int .i64 a0) ∧ p3w1.cell? ⟨ib, qa * 3 + 1, none⟩ = some (.int .i64 a1) ∧ p3w1.cell? ⟨ib, qa * 3 + 2, none⟩ = some (.int .i64 a2) ∧ p3w1.cell? ⟨ib, qb * 3, none⟩ = some (.int .i64 b0) ∧ p3w1.cell? ⟨ib, qb * 3 + 1, none⟩ = some (.int .i64 b1) ∧ p3w1.cell? ⟨ib, qb * 3 + 2, none⟩ = some (.int .i64 b2) ∧ p3w1.cell? ⟨sb, 0, none⟩ = some (.slice (some ⟨ib, 0, none⟩) n ic) ∧ p3w1.cell? ⟨sb, 1, none⟩ = some (.int .i64 g0) ∧ p3w1.cell? ⟨sb, 2, none⟩ = some (.int .i64 g1) ∧ p3w1.cell? ⟨sb, 3, none⟩ = some (.int .i64 g2) ∧ p3w1.cell? ⟨sb, 4, none⟩ = some (.int .i64 k0) ∧ p3w1.cell? ⟨sb, 5, none⟩ = some (.int .i64 k1) ∧ p3w1.cell? ⟨sb, 6, none⟩ = some (.int .i64 k2) ∧ p3w1.cell? ⟨sb, 7, none⟩ = some (.int .i64 day) ∧ p3w1.cell? ⟨tb, 0, none⟩ = some (.int .i64 X) ∧ p3w1.cell? ⟨tb, 1, none⟩ = some (.int .i64 Y) ∧ p3w1.cell? ⟨tb, 2, none⟩ = some (.int .i64 Z) ∧ p3w1.cell? ⟨v, of + qa * 3 + 1, none⟩ = some (.int .i64 va) ∧ p3w1.cell? ⟨v, of + qb * 3 + 1, none⟩ = some (.int .i64 vo) ∧ p3w1.cell? ⟨v, of + qb * 3 + 2, none⟩ = some (.int .i64 mo) := by refine ⟨?_, ?_, ?_, ?_, ?_, ?_, ?_, ?_, ?_, ?_, ?_, ?_, ?_, ?_, ?_, ?_, ?_, ?_, ?_, ?_, ?_, ?_, ?_, ?_, ?_, ?_, ?_, ?_⟩ <;> (rw [bc1 hbp31]; simp [go_sem, cP, *])
      obtain ⟨p31f1, p31f2, p31f3⟩ : (∀ j, p3w1.frozen? ⟨ib, j, none⟩ = false) ∧ (∀ j, p3w1.frozen? ⟨sb, j, none⟩ = false) ∧ (∀ j, p3w1.frozen? ⟨tb, j, none⟩ = false) := by refine ⟨?_, ?_, ?_⟩ <;> (intro j; rw [bc2 hbp31]; simp [go_sem, *])
      obtain ⟨p31o0, p31n0, p31o1, p31n1, p31o2, p31n2, p31o3, p31n3, p31o4, p31n4⟩ : w.heap.size < p3w1.heap.size ∧ p3w1.heap.size ≠ w.heap.size ∧ ib < p3w1.heap.size ∧ p3w1.heap.size ≠ ib ∧ sb < p3w1.heap.size ∧ p3w1.heap.size ≠ sb ∧ tb < p3w1.heap.size ∧ p3w1.heap.size ≠ tb ∧ v < p3w1.heap.size ∧ p3w1.heap.size ≠ v := by refine ⟨?_, ?_, ?_, ?_, ?_, ?_, ?_, ?_, ?_, ?_⟩ <;> omega
      have hBp31 : Below y2.heap.size y2 p3w1 := belA
      clear hbp31 y2A0 y2A1 y2A2 y2A3 y2A4 y2A5 y2A6 y2A7 y2B0 y2B1 y2B2 y2B3 y2B4 y2B5 y2C0 y2C1 y2C2 y2C3 y2C4 y2C5 y2C6 y2C7 y2D0 y2D1 y2D2 y2E0 y2E1 y2E2 y2f1 y2f2 y2f3 q1y2 q2y2 q3y2 q4y2 q5y2
      go_wp2_with fail
      refine hK.out _ _ (by simp [go_sem, cP, *]) (fun hHeld => ?_)
      clear hK K
      try simp only [Act.put, sA, sB, sC]
      refine tkA 10 84 rfl ?_
      refine tkA 11 10 rfl ?_
      refine wpAnyH_done (by kernel_rfl) ?_ _
      have hBp3w1 : Below w.heap.size w p3w1 := hBy2.trans (hBp31.mono (by omega))
      go_upto_region 13 with (fail)
      refine wp_region_held_drew (S := (fun w' => w'.cell? ⟨v, of + qa * 3 + 1, none⟩ = some (.int .i64 va) ∧ w'.cell? ⟨v, of + qb * 3 + 1, none⟩ = some (.int .i64 vo) ∧ w'.cell? ⟨v, of + qb * 3 + 2, none⟩ = some (.int .i64 mo))) (by kernel_rfl) (by simp [go_sem, cP, *]) (fun hHeld => ?_)
      refine tkA 0 85 rfl ?_
      refine tkA 1 86 rfl ?_
      refine tkA 2 87 rfl ?_
      refine tkA 3 88 rfl ?_
      refine tkA 4 89 rfl ?_
      refine tkA 5 90 rfl ?_
      refine tkA 6 91 rfl ?_
      refine tkA 7 92 rfl ?_
      refine tkA 8 93 rfl ?_
      refine tkA 9 94 rfl ?_
      refine tkA 10 95 rfl ?_
      refine tkA 11 96 rfl ?_
      refine tkA 12 97 rfl ?_
      refine tkA 13 98 rfl ?_
      refine wpAnyH_done (by kernel_rfl) ?_ _
      by_cases hf : mo * vo < 1000 * (SB + am)
      · have hr : Hid ((16 : Int) = E) := Lib.hid (by rw [← hE.out]; unfold pos1; rw [if_neg (by omega), if_neg (by omega), if_pos hf])
        go_wp2
        go_ret
        exact ⟨ret_int hr.out, Or.inl ⟨by have := hr.out; omega, (by first | exact hBp3w1 | exact hBp3w1.drew)⟩⟩
      · skip
        go_upto_region 15 with (fail)
        refine wp_region_held_drew (S := (fun w' => w'.cell? ⟨w.heap.size, 0, none⟩ = some (.int .i64 1) ∧ w'.cell? ⟨w.heap.size, 6, none⟩ = some (.int .i64 am) ∧ w'.cell? ⟨w.heap.size, 7, none⟩ = some (.bool true))) (by kernel_rfl) (by simp [go_sem, cP, *]) (fun hHeld => ?_)
        refine tkA 0 99 rfl ?_
        refine tkA 1 100 rfl ?_
        refine tkA 2 101 rfl ?_
        refine tkA 3 102 rfl ?_
        refine tkA 4 103 rfl ?_
        refine tkA 5 104 rfl ?_
        refine tkA 6 105 rfl ?_
        refine tkA 7 106 rfl ?_
        refine tkA 8 107 rfl ?_
        refine skH 9 ⟨some 108, _, _, _, _, _⟩ rfl (by assumption) ?_
        try simp only [Act.put, sA, sB, sC]
        refine skH 10 ⟨some 109, _, _, _, _, _⟩ rfl (by assumption) ?_
        try simp only [Act.put, sA, sB, sC]
        refine skH 11 ⟨some 110, _, _, _, _, _⟩ rfl (by assumption) ?_
        try simp only [Act.put, sA, sB, sC]
        refine skH 12 ⟨some 111, _, _, _, _, _⟩ rfl (by assumption) ?_
        try simp only [Act.put, sA, sB, sC]
        refine skH 13 ⟨some 112, _, _, _, _, _⟩ rfl (by assumption) ?_
        try simp only [Act.put, sA, sB, sC]
        refine skH 14 ⟨some 113, _, _, _, _, _⟩ rfl (by assumption) ?_
        try simp only [Act.put, sA, sB, sC]
        refine skH 15 ⟨some 114, _, _, _, _, _⟩ rfl (by assumption) ?_
        try simp only [Act.put, sA, sB, sC]
        refine skH 16 ⟨some 115, _, _, _, _, _⟩ rfl (by assumption) ?_
        try simp only [Act.put, sA, sB, sC]
        refine skH 17 ⟨some 116, _, _, _, _, _⟩ rfl (by assumption) ?_
        try simp only [Act.put, sA, sB, sC]
        refine skH 18 ⟨some 117, _, _, _, _, _⟩ rfl (by assumption) ?_
        try simp only [Act.put, sA, sB, sC]
        refine skH 19 ⟨some 118, _, _, _, _, _⟩ rfl (by assumption) ?_
        try simp only [Act.put, sA, sB, sC]
        refine skH 20 ⟨some 119, _, _, _, _, _⟩ rfl (by assumption) ?_
        try simp only [Act.put, sA, sB, sC]
        refine skH 21 ⟨some 120, _, _, _, _, _⟩ rfl (by assumption) ?_
        try simp only [Act.put, sA, sB, sC]
        refine skH 22 ⟨some 121, _, _, _, _, _⟩ rfl (by assumption) ?_
        try simp only [Act.put, sA, sB, sC]
        refine skH 23 ⟨some 122, _, _, _, _, _⟩ rfl (by assumption) ?_
        try simp only [Act.put, sA, sB, sC]
        refine skH 24 ⟨some 123, _, _, _, _, _⟩ rfl (by assumption) ?_
        try simp only [Act.put, sA, sB, sC]
        refine skH 25 ⟨some 124, _, _, _, _, _⟩ rfl (by assumption) ?_
        try simp only [Act.put, sA, sB, sC]
        refine skH 26 ⟨some 125, _, _, _, _, _⟩ rfl (by assumption) ?_
        try simp only [Act.put, sA, sB, sC]
        refine skH 27 ⟨some 126, _, _, _, _, _⟩ rfl (by assumption) ?_
        try simp only [Act.put, sA, sB, sC]
        refine skH 28 ⟨some 127, _, _, _, _, _⟩ rfl (by assumption) ?_
        try simp only [Act.put, sA, sB, sC]
        refine skH 29 ⟨some 128, _, _, _, _, _⟩ rfl (by assumption) ?_
        try simp only [Act.put, sA, sB, sC]
        refine skH 30 ⟨some 129, _, _, _, _, _⟩ rfl (by assumption) ?_
        try simp only [Act.put, sA, sB, sC]
        refine skH 31 ⟨some 130, _, _, _, _, _⟩ rfl (by assumption) ?_
        try simp only [Act.put, sA, sB, sC]
        refine skH 32 ⟨some 131, _, _, _, _, _⟩ rfl (by assumption) ?_
        try simp only [Act.put, sA, sB, sC]
        refine skH 33 ⟨some 132, _, _, _, _, _⟩ rfl (by assumption) ?_
        try simp only [Act.put, sA, sB, sC]
        refine tkA 34 133 rfl ?_
        refine wpAnyH_done (by kernel_rfl) ?_ _
        go_upto_region 17 with (fail)
        refine wp_region_Z (S := (fun w' => w'.cell? ⟨ib, qb * 3, none⟩ = some (.int .i64 b0) ∧ w'.cell? ⟨ib, qb * 3 + 1, none⟩ = some (.int .i64 b1) ∧ w'.cell? ⟨ib, qb * 3 + 2, none⟩ = some (.int .i64 b2) ∧ w'.cell? ⟨sb, 0, none⟩ = some (.slice (some ⟨ib, 0, none⟩) n ic) ∧ w'.cell? ⟨tb, 0, none⟩ = some (.int .i64 X) ∧ w'.cell? ⟨tb, 1, none⟩ = some (.int .i64 Y) ∧ w'.cell? ⟨tb, 2, none⟩ = some (.int .i64 Z))) 15 (by kernel_rfl) (by kernel_rfl) (by kernel_rfl) (by simp [go_sem, cP, *]) (fun hHeld => ?_)
        refine tzA 0 134 rfl ?_
        refine tzA 1 135 rfl ?_
        refine tzA 2 136 rfl ?_
        refine tzA 3 137 rfl ?_
        refine tzA 4 138 rfl ?_
        refine tzA 5 139 rfl ?_
        refine tzA 6 140 rfl ?_
        refine tzA 7 141 rfl ?_
        refine tzA 8 142 rfl ?_
        refine tzA 9 143 rfl ?_
        refine tzA 10 144 rfl ?_
        refine tzA 11 145 rfl ?_
        refine tzA 12 146 rfl ?_
        refine wpAnyZ_call (q := 13) (by kernel_rfl) rfl rfl (fun K hK => ?_)
        go_simp
        refine (refPlus_any b0 b1 b2 X Y Z c0 c1 c2 _ (by omega) (by omega) (by omega) (by omega) (by omega) (by omega) (by omega) (by omega) (by omega) (by omega) (by omega) (by omega) hC).mono ?_
        rintro e p4w1 ⟨rfl, hbp41⟩
        have zp41 := hbp41.size
        try simp at zp41
        obtain ⟨p41A0, p41A1, p41A2, p41A3, p41A4, p41A5, p41A6, p41A7, p41B0, p41B1, p41B2, p41B3, p41B4, p41B5, p41C0, p41C1, p41C2, p41C3, p41C4, p41C5, p41C6, p41C7, p41D0, p41D1, p41D2, p41E0, p41E1, p41E2⟩ : p4w1.cell? ⟨w.heap.size, 0, none⟩ = some (.int .i64 1) ∧ p4w1.cell? ⟨w.heap.size, 1, none⟩ = some (.int .i64 d) ∧ p4w1.cell? ⟨w.heap.size, 2, none⟩ = some (.string fr) ∧ p4w1.cell? ⟨w.heap.size, 3, none⟩ = some (.string tz) ∧ p4w1.cell? ⟨w.heap.size, 4, none⟩ = some (.int .i64 0) ∧ p4w1.cell? ⟨w.heap.size, 5, none⟩ = some (.int .i64 0) ∧ p4w1.cell? ⟨w.heap.size, 6, none⟩ = some (.int .i64 am) ∧ p4w1.cell? ⟨w.heap.size, 7, none⟩ = some (.bool true) ∧ p4w1.cell? ⟨ib, qa * 3, none⟩ = some (.int .i64 a0) ∧ p4w1.cell? ⟨ib, qa * 3 + 1, none⟩ = some (.int .i64 a1) ∧ p4w1.cell? ⟨ib, qa * 3 + 2, none⟩ = some (.int .i64 a2) ∧ p4w1.cell? ⟨ib, qb * 3, none⟩ = some (.int .i64 b0) ∧ p4w1.cell? ⟨ib, qb * 3 + 1, none⟩ = some (.int .i64 b1) ∧ p4w1.cell? ⟨ib, qb * 3 + 2, none⟩ = some (.int .i64 b2) ∧ p4w1.cell? ⟨sb, 0, none⟩ = some (.slice (some ⟨ib, 0, none⟩) n ic) ∧ p4w1.cell? ⟨sb, 1, none⟩ = some (.int .i64 g0) ∧ p4w1.cell? ⟨sb, 2, none⟩ = some (.int .i64 g1) ∧ p4w1.cell? ⟨sb, 3, none⟩ = some (.int .i64 g2) ∧ p4w1.cell? ⟨sb, 4, none⟩ = some (.int .i64 k0) ∧ p4w1.cell? ⟨sb, 5, none⟩ = some (.int .i64 k1) ∧ p4w1.cell? ⟨sb, 6, none⟩ = some (.int .i64 k2) ∧ p4w1.cell? ⟨sb, 7, none⟩ = some (.int .i64 day) ∧ p4w1.cell? ⟨tb, 0, none⟩ = some (.int .i64 X) ∧ p4w1.cell? ⟨tb, 1, none⟩ = some (.int .i64 Y) ∧ p4w1.cell? ⟨tb, 2, none⟩ = some (.int .i64 Z) ∧ p4w1.cell? ⟨v, of + qa * 3 + 1, none⟩ = some (.int .i64 va) ∧ p4w1.cell? ⟨v, of + qb * 3 + 1, none⟩ = some (.int .i64 vo) ∧ p4w1.cell? ⟨v, of + qb * 3 + 2, none⟩ = some (.int .i64 mo) := by refine ⟨?_, ?_, ?_, ?_, ?_, ?_, ?_, ?_, ?_, ?_, ?_, ?_, ?_, ?_, ?_, ?_, ?_, ?_, ?_, ?_, ?_, ?_, ?_, ?_, ?_, ?_, ?_, ?_⟩ <;> (rw [bc1 hbp41]; simp [go_sem, cP, *])
        obtain ⟨p41f1, p41f2, p41f3⟩ : (∀ j, p4w1.frozen? ⟨ib, j, none⟩ = false) ∧ (∀ j, p4w1.frozen? ⟨sb, j, none⟩ = false) ∧ (∀ j, p4w1.frozen? ⟨tb, j, none⟩ = false) := by refine ⟨?_, ?_, ?_⟩ <;> (intro j; rw [bc2 hbp41]; simp [go_sem, *])
        obtain ⟨p41o0, p41n0, p41o1, p41n1, p41o2, p41n2, p41o3, p41n3, p41o4, p41n4⟩ : w.heap.size < p4w1.heap.size ∧ p4w1.heap.size ≠ w.heap.size ∧ ib < p4w1.heap.size ∧ p4w1.heap.size ≠ ib ∧ sb < p4w1.heap.size ∧ p4w1.heap.size ≠ sb ∧ tb < p4w1.heap.size ∧ p4w1.heap.size ≠ tb ∧ v < p4w1.heap.size ∧ p4w1.heap.size ≠ v := by refine ⟨?_, ?_, ?_, ?_, ?_, ?_, ?_, ?_, ?_, ?_⟩ <;> omega
        have hBp41 : Below p3w1.heap.size p3w1 p4w1 := belA
        clear hbp41 p31A0 p31A1 p31A2 p31A3 p31A4 p31A5 p31A6 p31A7 p31B0 p31B1 p31B2 p31B3 p31B4 p31B5 p31C0 p31C1 p31C2 p31C3 p31C4 p31C5 p31C6 p31C7 p31D0 p31D1 p31D2 p31E0 p31E1 p31E2 p31f1 p31f2 p31f3 p31o0 p31n0 p31o1 p31n1 p31o2 p31n2 p31o3 p31n3 p31o4 p31n4 hBp31
        go_wp2_with fail
        refine hK.out _ _ (by simp [go_sem, cP, *]) (fun hHeld => ?_)
        clear hK K
        try simp only [Act.put, List.setIfInBounds_toArray, List.set_cons_zero, List.set_cons_succ]
        refine tzA 14 148 rfl ?_
        refine wpAnyZ_last (by kernel_rfl) rfl (fun K hK => ?_)
        go_simp
        go_wp2_with fail
        refine hK.out _ _ ?_
        clear hK K
        try simp only [Act.put, List.setIfInBounds_toArray, List.set_cons_zero, List.set_cons_succ]
        obtain ⟨y4A0, y4A1, y4A2, y4A3, y4A4, y4A5, y4A6, y4A7, y4B0, y4B1, y4B2, y4B3, y4B4, y4B5, y4C0, y4C1, y4C2, y4C3, y4C4, y4C5, y4C6, y4C7, y4D0, y4D1, y4D2, y4E0, y4E1, y4E2⟩ : (((p4w1.setCell ⟨ib, qb * 3, none⟩ (.int .i64 c0)).setCell ⟨ib, qb * 3 + 1, none⟩ (.int .i64 c1)).setCell ⟨ib, qb * 3 + 2, none⟩ (.int .i64 c2)).cell? ⟨w.heap.size, 0, none⟩ = some (.int .i64 1) ∧ (((p4w1.setCell ⟨ib, qb * 3, none⟩ (.int .i64 c0)).setCell ⟨ib, qb * 3 + 1, none⟩ (.int .i64 c1)).setCell ⟨ib, qb * 3 + 2, none⟩ (.int .i64 c2)).cell? ⟨w.heap.size, 1, none⟩ = some (.int .i64 d) ∧ (((p4w1.setCell ⟨ib, qb * 3, none⟩ (.int .i64 c0)).setCell ⟨ib, qb * 3 + 1, none⟩ (.int .i64 c1)).setCell ⟨ib, qb * 3 + 2, none⟩ (.int .i64 c2)).cell? ⟨w.heap.size, 2, none⟩ = some (.string fr) ∧ (((p4w1.setCell ⟨ib, qb * 3, none⟩ (.int .i64 c0)).setCell ⟨ib, qb * 3 + 1, none⟩ (.int .i64 c1)).setCell ⟨ib, qb * 3 + 2, none⟩ (.int .i64 c2)).cell? ⟨w.heap.size, 3, none⟩ = some (.string tz) ∧ (((p4w1.setCell ⟨ib, qb * 3, none⟩ (.int .i64 c0)).setCell ⟨ib, qb * 3 + 1, none⟩ (.int .i64 c1)).setCell ⟨ib, qb * 3 + 2, none⟩ (.int .i64 c2)).cell? ⟨w.heap.size, 4, none⟩ = some (.int .i64 0) ∧ (((p4w1.setCell ⟨ib, qb * 3, none⟩ (.int .i64 c0)).setCell ⟨ib, qb * 3 + 1, none⟩ (.int .i64 c1)).setCell ⟨ib, qb * 3 + 2, none⟩ (.int .i64 c2)).cell? ⟨w.heap.size, 5, none⟩ = some (.int .i64 0) ∧ (((p4w1.setCell ⟨ib, qb * 3, none⟩ (.int .i64 c0)).setCell ⟨ib, qb * 3 + 1, none⟩ (.int .i64 c1)).setCell ⟨ib, qb * 3 + 2, none⟩ (.int .i64 c2)).cell? ⟨w.heap.size, 6, none⟩ = some (.int .i64 am) ∧ (((p4w1.setCell ⟨ib, qb * 3, none⟩ (.int .i64 c0)).setCell ⟨ib, qb * 3 + 1, none⟩ (.int .i64 c1)).setCell ⟨ib, qb * 3 + 2, none⟩ (.int .i64 c2)).cell? ⟨w.heap.size, 7, none⟩ = some (.bool true) ∧ (((p4w1.setCell ⟨ib, qb * 3, none⟩ (.int .i64 c0)).setCell ⟨ib, qb * 3 + 1, none⟩ (.int .i64 c1)).setCell ⟨ib, qb * 3 + 2, none⟩ (.int .i64 c2)).cell? ⟨ib, qa * 3, none⟩ = some (.int .i64 a0) ∧ (((p4w1.setCell ⟨ib, qb * 3, none⟩ (.int .i64 c0)).setCell ⟨ib, qb * 3 + 1, none⟩ (.int .i64 c1)).setCell ⟨ib, qb * 3 + 2, none⟩ (.int .i64 c2)).cell? ⟨ib, qa * 3 + 1, none⟩ = some (.int .i64 a1) ∧ (((p4w1.setCell ⟨ib, qb * 3, none⟩ (.int .i64 c0)).setCell ⟨ib, qb * 3 + 1, none⟩ (.int .i64 c1)).setCell ⟨ib, qb * 3 + 2, none⟩ (.int .i64 c2)).cell? ⟨ib, qa * 3 + 2, none⟩ = some (.int .i64 a2) ∧ (((p4w1.setCell ⟨ib, qb * 3, none⟩ (.int .i64 c0)).setCell ⟨ib, qb * 3 + 1, none⟩ (.int .i64 c1)).setCell ⟨ib, qb * 3 + 2, none⟩ (.int .i64 c2)).cell? ⟨ib, qb * 3, none⟩ = some (.int .i64 c0) ∧ (((p4w1.setCell ⟨ib, qb * 3, none⟩ (.int .i64 c0)).setCell ⟨ib, qb * 3 + 1, none⟩ (.int .i64 c1)).setCell ⟨ib, qb * 3 + 2, none⟩ (.int .i64 c2)).cell? ⟨ib, qb * 3 + 1, none⟩ = some (.int .i64 c1) ∧ (((p4w1.setCell ⟨ib, qb * 3, none⟩ (.int .i64 c0)).setCell ⟨ib, qb * 3 + 1, none⟩ (.int .i64 c1)).setCell ⟨ib, qb * 3 + 2, none⟩ (.int .i64 c2)).cell? ⟨ib, qb * 3 + 2, none⟩ = some (.int .i64 c2) ∧ (((p4w1.setCell ⟨ib, qb * 3, none⟩ (.int .i64 c0)).setCell ⟨ib, qb * 3 + 1, none⟩ (.int .i64 c1)).setCell ⟨ib, qb * 3 + 2, none⟩ (.int .i64 c2)).cell? ⟨sb, 0, none⟩ = some (.slice (some ⟨ib, 0, none⟩) n ic) ∧ (((p4w1.setCell ⟨ib, qb * 3, none⟩ (.int .i64 c0)).setCell ⟨ib, qb * 3 + 1, none⟩ (.int .i64 c1)).setCell ⟨ib, qb * 3 + 2, none⟩ (.int .i64 c2)).cell? ⟨sb, 1, none⟩ = some (.int .i64 g0) ∧ (((p4w1.setCell ⟨ib, qb * 3, none⟩ (.int .i64 c0)).setCell ⟨ib, qb * 3 + 1, none⟩ (.int .i64 c1)).setCell ⟨ib, qb * 3 + 2, none⟩ (.int .i64 c2)).cell? ⟨sb, 2, none⟩ = some (.int .i64 g1) ∧ (((p4w1.setCell ⟨ib, qb * 3, none⟩ (.int .i64 c0)).setCell ⟨ib, qb * 3 + 1, none⟩ (.int .i64 c1)).setCell ⟨ib, qb * 3 + 2, none⟩ (.int .i64 c2)).cell? ⟨sb, 3, none⟩ = some (.int .i64 g2) ∧ (((p4w1.setCell ⟨ib, qb * 3, none⟩ (.int .i64 c0)).setCell ⟨ib, qb * 3 + 1, none⟩ (.int .i64 c1)).setCell ⟨ib, qb * 3 + 2, none⟩ (.int .i64 c2)).cell? ⟨sb, 4, none⟩ = some (.int .i64 k0) ∧ (((p4w1.setCell ⟨ib, qb * 3, none⟩ (.int .i64 c0)).setCell ⟨ib, qb * 3 + 1, none⟩ (.int .i64 c1)).setCell ⟨ib, qb * 3 + 2, none⟩ (.int .i64 c2)).cell? ⟨sb, 5, none⟩ = some (.int .i64 k1) ∧ (((p4w1.setCell ⟨ib, qb * 3, none⟩ (.int .i64 c0)).setCell ⟨ib, qb * 3 + 1, none⟩ (.int .i64 c1)).setCell ⟨ib, qb * 3 + 2, none⟩ (.int .i64 c2)).cell? ⟨sb, 6, none⟩ = some (.int .i64 k2) ∧ (((p4w1.setCell ⟨ib, qb * 3, none⟩ (.int .i64 c0)).setCell ⟨ib, qb * 3 + 1, none⟩ (.int .i64 c1)).setCell ⟨ib, qb * 3 + 2, none⟩ (.int .i64 c2)).cell? ⟨sb, 7, none⟩ = some (.int .i64 day) ∧ (((p4w1.setCell ⟨ib, qb * 3, none⟩ (.int .i64 c0)).setCell ⟨ib, qb * 3 + 1, none⟩ (.int .i64 c1)).setCell ⟨ib, qb * 3 + 2, none⟩ (.int .i64 c2)).cell? ⟨tb, 0, none⟩ = some (.int .i64 X) ∧ (((p4w1.setCell ⟨ib, qb * 3, none⟩ (.int .i64 c0)).setCell ⟨ib, qb * 3 + 1, none⟩ (.int .i64 c1)).setCell ⟨ib, qb * 3 + 2, none⟩ (.int .i64 c2)).cell? ⟨tb, 1, none⟩ = some (.int .i64 Y) ∧ (((p4w1.setCell ⟨ib, qb * 3, none⟩ (.int .i64 c0)).setCell ⟨ib, qb * 3 + 1, none⟩ (.int .i64 c1)).setCell ⟨ib, qb * 3 + 2, none⟩ (.int .i64 c2)).cell? ⟨tb, 2, none⟩ = some (.int .i64 Z) ∧ (((p4w1.setCell ⟨ib, qb * 3, none⟩ (.int .i64 c0)).setCell ⟨ib, qb * 3 + 1, none⟩ (.int .i64 c1)).setCell ⟨ib, qb * 3 + 2, none⟩ (.int .i64 c2)).cell? ⟨v, of + qa * 3 + 1, none⟩ = some (.int .i64 va) ∧ (((p4w1.setCell ⟨ib, qb * 3, none⟩ (.int .i64 c0)).setCell ⟨ib, qb * 3 + 1, none⟩ (.int .i64 c1)).setCell ⟨ib, qb * 3 + 2, none⟩ (.int .i64 c2)).cell? ⟨v, of + qb * 3 + 1, none⟩ = some (.int .i64 vo) ∧ (((p4w1.setCell ⟨ib, qb * 3, none⟩ (.int .i64 c0)).setCell ⟨ib, qb * 3 + 1, none⟩ (.int .i64 c1)).setCell ⟨ib, qb * 3 + 2, none⟩ (.int .i64 c2)).cell? ⟨v, of + qb * 3 + 2, none⟩ = some (.int .i64 mo) := by refine ⟨?_, ?_, ?_, ?_, ?_, ?_, ?_, ?_, ?_, ?_, ?_, ?_, ?_, ?_, ?_, ?_, ?_, ?_, ?_, ?_, ?_, ?_, ?_, ?_, ?_, ?_, ?_, ?_⟩ <;> (simp [go_sem, cP, *])
        obtain ⟨y4f1, y4f2, y4f3⟩ : (∀ j, (((p4w1.setCell ⟨ib, qb * 3, none⟩ (.int .i64 c0)).setCell ⟨ib, qb * 3 + 1, none⟩ (.int .i64 c1)).setCell ⟨ib, qb * 3 + 2, none⟩ (.int .i64 c2)).frozen? ⟨ib, j, none⟩ = false) ∧ (∀ j, (((p4w1.setCell ⟨ib, qb * 3, none⟩ (.int .i64 c0)).setCell ⟨ib, qb * 3 + 1, none⟩ (.int .i64 c1)).setCell ⟨ib, qb * 3 + 2, none⟩ (.int .i64 c2)).frozen? ⟨sb, j, none⟩ = false) ∧ (∀ j, (((p4w1.setCell ⟨ib, qb * 3, none⟩ (.int .i64 c0)).setCell ⟨ib, qb * 3 + 1, none⟩ (.int .i64 c1)).setCell ⟨ib, qb * 3 + 2, none⟩ (.int .i64 c2)).frozen? ⟨tb, j, none⟩ = false) := by refine ⟨?_, ?_, ?_⟩ <;> (intro j; simp [go_sem, *])
        have hzy4 : (((p4w1.setCell ⟨ib, qb * 3, none⟩ (.int .i64 c0)).setCell ⟨ib, qb * 3 + 1, none⟩ (.int .i64 c1)).setCell ⟨ib, qb * 3 + 2, none⟩ (.int .i64 c2)).heap.size = p4w1.heap.size := by simp
        have hDy4 : BelowD sb ib w.heap.size w (((p4w1.setCell ⟨ib, qb * 3, none⟩ (.int .i64 c0)).setCell ⟨ib, qb * 3 + 1, none⟩ (.int .i64 c1)).setCell ⟨ib, qb * 3 + 2, none⟩ (.int .i64 c2)) := ((((BelowD.of (hBp3w1.trans (hBp41.mono (by omega))) (Nat.le_refl _))).set ib (qb * 3) _ (Or.inr (Or.inl rfl))).set ib (qb * 3 + 1) _ (Or.inr (Or.inl rfl))).set ib (qb * 3 + 2) _ (Or.inr (Or.inl rfl))
        have hVy4 : ∀ q, q ≠ qa * 3 → q ≠ qa * 3 + 1 → q ≠ qa * 3 + 2 → q ≠ qb * 3 → q ≠ qb * 3 + 1 → q ≠ qb * 3 + 2 → (((p4w1.setCell ⟨ib, qb * 3, none⟩ (.int .i64 c0)).setCell ⟨ib, qb * 3 + 1, none⟩ (.int .i64 c1)).setCell ⟨ib, qb * 3 + 2, none⟩ (.int .i64 c2)).cell? ⟨ib, q, none⟩ = w.cell? ⟨ib, q, none⟩ := fun q u0 u1 u2 u3 u4 u5 => by rw [soff (Ne.symm u5), soff (Ne.symm u4), soff (Ne.symm u3)]; exact ((hBp3w1.trans (hBp41.mono (by omega))).cell (p := ⟨ib, q, none⟩) li)
        have zsy4 : p3w1.heap.size ≤ (((p4w1.setCell ⟨ib, qb * 3, none⟩ (.int .i64 c0)).setCell ⟨ib, qb * 3 + 1, none⟩ (.int .i64 c1)).setCell ⟨ib, qb * 3 + 2, none⟩ (.int .i64 c2)).heap.size := by rw [hzy4]; exact hBp41.size
        clear p41A0 p41A1 p41A2 p41A3 p41A4 p41A5 p41A6 p41A7 p41B0 p41B1 p41B2 p41B3 p41B4 p41B5 p41C0 p41C1 p41C2 p41C3 p41C4 p41C5 p41C6 p41C7 p41D0 p41D1 p41D2 p41E0 p41E1 p41E2 p41f1 p41f2 p41f3 p41o0 p41n0 p41o1 p41n1 p41o2 p41n2 p41o3 p41n3 p41o4 p41n4 hBp41
        generalize hWy4 : ((p4w1.setCell ⟨ib, qb * 3, none⟩ (.int .i64 c0)).setCell ⟨ib, qb * 3 + 1, none⟩ (.int .i64 c1)).setCell ⟨ib, qb * 3 + 2, none⟩ (.int .i64 c2) = y4 at *
        clear hWy4
        have q1y4 : w.heap.size < y4.heap.size := by omega
        have q2y4 : ib < y4.heap.size := by omega
        have q3y4 : sb < y4.heap.size := by omega
        have q4y4 : tb < y4.heap.size := by omega
        have q5y4 : v < y4.heap.size := by omega
        go_upto_region 19 with (fail)
        refine wp_region_Z (S := (fun w' => w'.cell? ⟨ib, qa * 3, none⟩ = some (.int .i64 a0) ∧ w'.cell? ⟨ib, qa * 3 + 1, none⟩ = some (.int .i64 a1) ∧ w'.cell? ⟨ib, qa * 3 + 2, none⟩ = some (.int .i64 a2) ∧ w'.cell? ⟨sb, 0, none⟩ = some (.slice (some ⟨ib, 0, none⟩) n ic) ∧ w'.cell? ⟨tb, 0, none⟩ = some (.int .i64 X) ∧ w'.cell? ⟨tb, 1, none⟩ = some (.int .i64 Y) ∧ w'.cell? ⟨tb, 2, none⟩ = some (.int .i64 Z))) 15 (by kernel_rfl) (by kernel_rfl) (by kernel_rfl) (by simp [go_sem, cP, *]) (fun hHeld => ?_)
        refine tzA 0 152 rfl ?_
        refine tzA 1 153 rfl ?_
        refine tzA 2 154 rfl ?_
        refine tzA 3 155 rfl ?_
        refine tzA 4 156 rfl ?_
        refine tzA 5 157 rfl ?_
        refine tzA 6 158 rfl ?_
        refine tzA 7 159 rfl ?_
        refine tzA 8 160 rfl ?_
        refine tzA 9 161 rfl ?_
        refine tzA 10 162 rfl ?_
        refine tzA 11 163 rfl ?_
        refine tzA 12 164 rfl ?_
        refine wpAnyZ_call (q := 13) (by kernel_rfl) rfl rfl (fun K hK => ?_)
        go_simp
        refine (refMinus_any a0 a1 a2 X Y Z n0 n1 n2 _ (by omega) (by omega) (by omega) (by omega) (by omega) (by omega) (by omega) (by omega) (by omega) (by omega) (by omega) (by omega) hN).mono ?_
        rintro e p5w1 ⟨rfl, hbp51⟩
        have zp51 := hbp51.size
        try simp at zp51
        obtain ⟨p51A0, p51A1, p51A2, p51A3, p51A4, p51A5, p51A6, p51A7, p51B0, p51B1, p51B2, p51B3, p51B4, p51B5, p51C0, p51C1, p51C2, p51C3, p51C4, p51C5, p51C6, p51C7, p51D0, p51D1, p51D2, p51E0, p51E1, p51E2⟩ : p5w1.cell? ⟨w.heap.size, 0, none⟩ = some (.int .i64 1) ∧ p5w1.cell? ⟨w.heap.size, 1, none⟩ = some (.int .i64 d) ∧ p5w1.cell? ⟨w.heap.size, 2, none⟩ = some (.string fr) ∧ p5w1.cell? ⟨w.heap.size, 3, none⟩ = some (.string tz) ∧ p5w1.cell? ⟨w.heap.size, 4, none⟩ = some (.int .i64 0) ∧ p5w1.cell? ⟨w.heap.size, 5, none⟩ = some (.int .i64 0) ∧ p5w1.cell? ⟨w.heap.size, 6, none⟩ = some (.int .i64 am) ∧ p5w1.cell? ⟨w.heap.size, 7, none⟩ = some (.bool true) ∧ p5w1.cell? ⟨ib, qa * 3, none⟩ = some (.int .i64 a0) ∧ p5w1.cell? ⟨ib, qa * 3 + 1, none⟩ = some (.int .i64 a1) ∧ p5w1.cell? ⟨ib, qa * 3 + 2, none⟩ = some (.int .i64 a2) ∧ p5w1.cell? ⟨ib, qb * 3, none⟩ = some (.int .i64 c0) ∧ p5w1.cell? ⟨ib, qb * 3 + 1, none⟩ = some (.int .i64 c1) ∧ p5w1.cell? ⟨ib, qb * 3 + 2, none⟩ = some (.int .i64 c2) ∧ p5w1.cell? ⟨sb, 0, none⟩ = some (.slice (some ⟨ib, 0, none⟩) n ic) ∧ p5w1.cell? ⟨sb, 1, none⟩ = some (.int .i64 g0) ∧ p5w1.cell? ⟨sb, 2, none⟩ = some (.int .i64 g1) ∧ p5w1.cell? ⟨sb, 3, none⟩ = some (.int .i64 g2) ∧ p5w1.cell? ⟨sb, 4, none⟩ = some (.int .i64 k0) ∧ p5w1.cell? ⟨sb, 5, none⟩ = some (.int .i64 k1) ∧ p5w1.cell? ⟨sb, 6, none⟩ = some (.int .i64 k2) ∧ p5w1.cell? ⟨sb, 7, none⟩ = some (.int .i64 day) ∧ p5w1.cell? ⟨tb, 0, none⟩ = some (.int .i64 X) ∧ p5w1.cell? ⟨tb, 1, none⟩ = some (.int .i64 Y) ∧ p5w1.cell? ⟨tb, 2, none⟩ = some (.int .i64 Z) ∧ p5w1.cell? ⟨v, of + qa * 3 + 1, none⟩ = some (.int .i64 va) ∧ p5w1.cell? ⟨v, of + qb * 3 + 1, none⟩ = some (.int .i64 vo) ∧ p5w1.cell? ⟨v, of + qb * 3 + 2, none⟩ = some (.int .i64 mo) := by refine ⟨?_, ?_, ?_, ?_, ?_, ?_, ?_, ?_, ?_, ?_, ?_, ?_, ?_, ?_, ?_, ?_, ?_, ?_, ?_, ?_, ?_, ?_, ?_, ?_, ?_, ?_, ?_, ?_⟩ <;> (rw [bc1 hbp51]; simp [go_sem, cP, *])
        obtain ⟨p51f1, p51f2, p51f3⟩ : (∀ j, p5w1.frozen? ⟨ib, j, none⟩ = false) ∧ (∀ j, p5w1.frozen? ⟨sb, j, none⟩ = false) ∧ (∀ j, p5w1.frozen? ⟨tb, j, none⟩ = false) := by refine ⟨?_, ?_, ?_⟩ <;> (intro j; rw [bc2 hbp51]; simp [go_sem, *])
        obtain ⟨p51o0, p51n0, p51o1, p51n1, p51o2, p51n2, p51o3, p51n3, p51o4, p51n4⟩ : w.heap.size < p5w1.heap.size ∧ p5w1.heap.size ≠ w.heap.size ∧ ib < p5w1.heap.size ∧ p5w1.heap.size ≠ ib ∧ sb < p5w1.heap.size ∧ p5w1.heap.size ≠ sb ∧ tb < p5w1.heap.size ∧ p5w1.heap.size ≠ tb ∧ v < p5w1.heap.size ∧ p5w1.heap.size ≠ v := by refine ⟨?_, ?_, ?_, ?_, ?_, ?_, ?_, ?_, ?_, ?_⟩ <;> omega
        have hBp51 : Below y4.heap.size y4 p5w1 := belA
        clear hbp51 y4A0 y4A1 y4A2 y4A3 y4A4 y4A5 y4A6 y4A7 y4B0 y4B1 y4B2 y4B3 y4B4 y4B5 y4C0 y4C1 y4C2 y4C3 y4C4 y4C5 y4C6 y4C7 y4D0 y4D1 y4D2 y4E0 y4E1 y4E2 y4f1 y4f2 y4f3 q1y4 q2y4 q3y4 q4y4 q5y4
        go_wp2_with fail
        refine hK.out _ _ (by simp [go_sem, cP, *]) (fun hHeld => ?_)
        clear hK K
        try simp only [Act.put, List.setIfInBounds_toArray, List.set_cons_zero, List.set_cons_succ]
        refine tzA 14 166 rfl ?_
        refine wpAnyZ_last (by kernel_rfl) rfl (fun K hK => ?_)
        go_simp
        go_wp2_with fail
        refine hK.out _ _ ?_
        clear hK K
        try simp only [Act.put, List.setIfInBounds_toArray, List.set_cons_zero, List.set_cons_succ]
        obtain ⟨y5A0, y5A1, y5A2, y5A3, y5A4, y5A5, y5A6, y5A7, y5B0, y5B1, y5B2, y5B3, y5B4, y5B5, y5C0, y5C1, y5C2, y5C3, y5C4, y5C5, y5C6, y5C7, y5D0, y5D1, y5D2, y5E0, y5E1, y5E2⟩ : (((p5w1.setCell ⟨ib, qa * 3, none⟩ (.int .i64 n0)).setCell ⟨ib, qa * 3 + 1, none⟩ (.int .i64 n1)).setCell ⟨ib, qa * 3 + 2, none⟩ (.int .i64 n2)).cell? ⟨w.heap.size, 0, none⟩ = some (.int .i64 1) ∧ (((p5w1.setCell ⟨ib, qa * 3, none⟩ (.int .i64 n0)).setCell ⟨ib, qa * 3 + 1, none⟩ (.int .i64 n1)).setCell ⟨ib, qa * 3 + 2, none⟩ (.int .i64 n2)).cell? ⟨w.heap.size, 1, none⟩ = some (.int .i64 d) ∧ (((p5w1.setCell ⟨ib, qa * 3, none⟩ (.int .i64 n0)).setCell ⟨ib, qa * 3 + 1, none⟩ (.int .i64 n1)).setCell ⟨ib, qa * 3 + 2, none⟩ (.int .i64 n2)).cell? ⟨w.heap.size, 2, none⟩ = some (.string fr) ∧ (((p5w1.setCell ⟨ib, qa * 3, none⟩ (.int .i64 n0)).setCell ⟨ib, qa * 3 + 1, none⟩ (.int .i64 n1)).setCell ⟨ib, qa * 3 + 2, none⟩ (.int .i64 n2)).cell? ⟨w.heap.size, 3, none⟩ = some (.string tz) ∧ (((p5w1.setCell ⟨ib, qa * 3, none⟩ (.int .i64 n0)).setCell ⟨ib, qa * 3 + 1, none⟩ (.int .i64 n1)).setCell ⟨ib, qa * 3 + 2, none⟩ (.int .i64 n2)).cell? ⟨w.heap.size, 4, none⟩ = some (.int .i64 0) ∧ (((p5w1.setCell ⟨ib, qa * 3, none⟩ (.int .i64 n0)).setCell ⟨ib, qa * 3 + 1, none⟩ (.int .i64 n1)).setCell ⟨ib, qa * 3 + 2, none⟩ (.int .i64 n2)).cell? ⟨w.heap.size, 5, none⟩ = some (.int .i64 0) ∧ (((p5w1.setCell ⟨ib, qa * 3, none⟩ (.int .i64 n0)).setCell ⟨ib, qa * 3 + 1, none⟩ (.int .i64 n1)).setCell ⟨ib, qa * 3 + 2, none⟩ (.int .i64 n2)).cell? ⟨w.heap.size, 6, none⟩ = some (.int .i64 am) ∧ (((p5w1.setCell ⟨ib, qa * 3, none⟩ (.int .i64 n0)).setCell ⟨ib, qa * 3 + 1, none⟩ (.int .i64 n1)).setCell ⟨ib, qa * 3 + 2, none⟩ (.int .i64 n2)).cell? ⟨w.heap.size, 7, none⟩ = some (.bool true) ∧ (((p5w1.setCell ⟨ib, qa * 3, none⟩ (.int .i64 n0)).setCell ⟨ib, qa * 3 + 1, none⟩ (.int .i64 n1)).setCell ⟨ib, qa * 3 + 2, none⟩ (.int .i64 n2)).cell? ⟨ib, qa * 3, none⟩ = some (.int .i64 n0) ∧ (((p5w1.setCell ⟨ib, qa * 3, none⟩ (.int .i64 n0)).setCell ⟨ib, qa * 3 + 1, none⟩ (.int .i64 n1)).setCell ⟨ib, qa * 3 + 2, none⟩ (.int .i64 n2)).cell? ⟨ib, qa * 3 + 1, none⟩ = some (.int .i64 n1) ∧ (((p5w1.setCell ⟨ib, qa * 3, none⟩ (.int .i64 n0)).setCell ⟨ib, qa * 3 + 1, none⟩ (.int .i64 n1)).setCell ⟨ib, qa * 3 + 2, none⟩ (.int .i64 n2)).cell? ⟨ib, qa * 3 + 2, none⟩ = some (.int .i64 n2) ∧ (((p5w1.setCell ⟨ib, qa * 3, none⟩ (.int .i64 n0)).setCell ⟨ib, qa * 3 + 1, none⟩ (.int .i64 n1)).setCell ⟨ib, qa * 3 + 2, none⟩ (.int .i64 n2)).cell? ⟨ib, qb * 3, none⟩ = some (.int .i64 c0) ∧ (((p5w1.setCell ⟨ib, qa * 3, none⟩ (.int .i64 n0)).setCell ⟨ib, qa * 3 + 1, none⟩ (.int .i64 n1)).setCell ⟨ib, qa * 3 + 2, none⟩ (.int .i64 n2)).cell? ⟨ib, qb * 3 + 1, none⟩ = some (.int .i64 c1) ∧ (((p5w1.setCell ⟨ib, qa * 3, none⟩ (.int .i64 n0)).setCell ⟨ib, qa * 3 + 1, none⟩ (.int .i64 n1)).setCell ⟨ib, qa * 3 + 2, none⟩ (.int .i64 n2)).cell? ⟨ib, qb * 3 + 2, none⟩ = some (.int .i64 c2) ∧ (((p5w1.setCell ⟨ib, qa * 3, none⟩ (.int .i64 n0)).setCell ⟨ib, qa * 3 + 1, none⟩ (.int .i64 n1)).setCell ⟨ib, qa * 3 + 2, none⟩ (.int .i64 n2)).cell? ⟨sb, 0, none⟩ = some (.slice (some ⟨ib, 0, none⟩) n ic) ∧ (((p5w1.setCell ⟨ib, qa * 3, none⟩ (.int .i64 n0)).setCell ⟨ib, qa * 3 + 1, none⟩ (.int .i64 n1)).setCell ⟨ib, qa * 3 + 2, none⟩ (.int .i64 n2)).cell? ⟨sb, 1, none⟩ = some (.int .i64 g0) ∧ (((p5w1.setCell ⟨ib, qa * 3, none⟩ (.int .i64 n0)).setCell ⟨ib, qa * 3 + 1, none⟩ (.int .i64 n1)).setCell ⟨ib, qa * 3 + 2, none⟩ (.int .i64 n2)).cell? ⟨sb, 2, none⟩ = some (.int .i64 g1) ∧ (((p5w1.setCell ⟨ib, qa * 3, none⟩ (.int .i64 n0)).setCell ⟨ib, qa * 3 + 1, none⟩ (.int .i64 n1)).setCell ⟨ib, qa * 3 + 2, none⟩ (.int .i64 n2)).cell? ⟨sb, 3, none⟩ = some (.int .i64 g2) ∧ (((p5w1.setCell ⟨ib, qa * 3, none⟩ (.int .i64 n0)).setCell ⟨ib, qa * 3 + 1, none⟩ (.int .i64 n1)).setCell ⟨ib, qa * 3 + 2, none⟩ (.int .i64 n2)).cell? ⟨sb, 4, none⟩ = some (.int .i64 k0) ∧ (((p5w1.setCell ⟨ib, qa * 3, none⟩ (.int .i64 n0)).setCell ⟨ib, qa * 3 + 1, none⟩ (.int .i64 n1)).setCell ⟨ib, qa * 3 + 2, none⟩ (.int .i64 n2)).cell? ⟨sb, 5, none⟩ = some (.int .i64 k1) ∧ (((p5w1.setCell ⟨ib, qa * 3, none⟩ (.int .i64 n0)).setCell ⟨ib, qa * 3 + 1, none⟩ (.int .i64 n1)).setCell ⟨ib, qa * 3 + 2, none⟩ (.int .i64 n2)).cell? ⟨sb, 6, none⟩ = some (.int .i64 k2) ∧ (((p5w1.setCell ⟨ib, qa * 3, none⟩ (.int .i64 n0)).setCell ⟨ib, qa * 3 + 1, none⟩ (.int .i64 n1)).setCell ⟨ib, qa * 3 + 2, none⟩ (.int .i64 n2)).cell? ⟨sb, 7, none⟩ = some (.int .i64 day) ∧ (((p5w1.setCell ⟨ib, qa * 3, none⟩ (.int .i64 n0)).setCell ⟨ib, qa * 3 + 1, none⟩ (.int .i64 n1)).setCell ⟨ib, qa * 3 + 2, none⟩ (.int .i64 n2)).cell? ⟨tb, 0, none⟩ = some (.int .i64 X) ∧ (((p5w1.setCell ⟨ib, qa * 3, none⟩ (.int .i64 n0)).setCell ⟨ib, qa * 3 + 1, none⟩ (.int .i64 n1)).setCell ⟨ib, qa * 3 + 2, none⟩ (.int .i64 n2)).cell? ⟨tb, 1, none⟩ = some (.int .i64 Y) ∧ (((p5w1.setCell ⟨ib, qa * 3, none⟩ (.int .i64 n0)).setCell ⟨ib, qa * 3 + 1, none⟩ (.int .i64 n1)).setCell ⟨ib, qa * 3 + 2, none⟩ (.int .i64 n2)).cell? ⟨tb, 2, none⟩ = some (.int .i64 Z) ∧ (((p5w1.setCell ⟨ib, qa * 3, none⟩ (.int .i64 n0)).setCell ⟨ib, qa * 3 + 1, none⟩ (.int .i64 n1)).setCell ⟨ib, qa * 3 + 2, none⟩ (.int .i64 n2)).cell? ⟨v, of + qa * 3 + 1, none⟩ = some (.int .i64 va) ∧ (((p5w1.setCell ⟨ib, qa * 3, none⟩ (.int .i64 n0)).setCell ⟨ib, qa * 3 + 1, none⟩ (.int .i64 n1)).setCell ⟨ib, qa * 3 + 2, none⟩ (.int .i64 n2)).cell? ⟨v, of + qb * 3 + 1, none⟩ = some (.int .i64 vo) ∧ (((p5w1.setCell ⟨ib, qa * 3, none⟩ (.int .i64 n0)).setCell ⟨ib, qa * 3 + 1, none⟩ (.int .i64 n1)).setCell ⟨ib, qa * 3 + 2, none⟩ (.int .i64 n2)).cell? ⟨v, of + qb * 3 + 2, none⟩ = some (.int .i64 mo) := by refine ⟨?_, ?_, ?_, ?_, ?_, ?_, ?_, ?_, ?_, ?_, ?_, ?_, ?_, ?_, ?_, ?_, ?_, ?_, ?_, ?_, ?_, ?_, ?_, ?_, ?_, ?_, ?_, ?_⟩ <;> (simp [go_sem, cP, *])
        obtain ⟨y5f1, y5f2, y5f3⟩ : (∀ j, (((p5w1.setCell ⟨ib, qa * 3, none⟩ (.int .i64 n0)).setCell ⟨ib, qa * 3 + 1, none⟩ (.int .i64 n1)).setCell ⟨ib, qa * 3 + 2, none⟩ (.int .i64 n2)).frozen? ⟨ib, j, none⟩ = false) ∧ (∀ j, (((p5w1.setCell ⟨ib, qa * 3, none⟩ (.int .i64 n0)).setCell ⟨ib, qa * 3 + 1, none⟩ (.int .i64 n1)).setCell ⟨ib, qa * 3 + 2, none⟩ (.int .i64 n2)).frozen? ⟨sb, j, none⟩ = false) ∧ (∀ j, (((p5w1.setCell ⟨ib, qa * 3, none⟩ (.int .i64 n0)).setCell ⟨ib, qa * 3 + 1, none⟩ (.int .i64 n1)).setCell ⟨ib, qa * 3 + 2, none⟩ (.int .i64 n2)).frozen? ⟨tb, j, none⟩ = false) := by refine ⟨?_, ?_, ?_⟩ <;> (intro j; simp [go_sem, *])
        have hzy5 : (((p5w1.setCell ⟨ib, qa * 3, none⟩ (.int .i64 n0)).setCell ⟨ib, qa * 3 + 1, none⟩ (.int .i64 n1)).setCell ⟨ib, qa * 3 + 2, none⟩ (.int .i64 n2)).heap.size = p5w1.heap.size := by simp
        have hDy5 : BelowD sb ib w.heap.size w (((p5w1.setCell ⟨ib, qa * 3, none⟩ (.int .i64 n0)).setCell ⟨ib, qa * 3 + 1, none⟩ (.int .i64 n1)).setCell ⟨ib, qa * 3 + 2, none⟩ (.int .i64 n2)) := ((((hDy4.trans (BelowD.of hBp51 (by omega)))).set ib (qa * 3) _ (Or.inr (Or.inl rfl))).set ib (qa * 3 + 1) _ (Or.inr (Or.inl rfl))).set ib (qa * 3 + 2) _ (Or.inr (Or.inl rfl))
        have hVy5 : ∀ q, q ≠ qa * 3 → q ≠ qa * 3 + 1 → q ≠ qa * 3 + 2 → q ≠ qb * 3 → q ≠ qb * 3 + 1 → q ≠ qb * 3 + 2 → (((p5w1.setCell ⟨ib, qa * 3, none⟩ (.int .i64 n0)).setCell ⟨ib, qa * 3 + 1, none⟩ (.int .i64 n1)).setCell ⟨ib, qa * 3 + 2, none⟩ (.int .i64 n2)).cell? ⟨ib, q, none⟩ = w.cell? ⟨ib, q, none⟩ := fun q u0 u1 u2 u3 u4 u5 => by rw [soff (Ne.symm u2), soff (Ne.symm u1), soff (Ne.symm u0)]; exact ((hBp51.cell (p := ⟨ib, q, none⟩) (by show ib < _; omega)).trans (hVy4 q u0 u1 u2 u3 u4 u5))
        have zsy5 : y4.heap.size ≤ (((p5w1.setCell ⟨ib, qa * 3, none⟩ (.int .i64 n0)).setCell ⟨ib, qa * 3 + 1, none⟩ (.int .i64 n1)).setCell ⟨ib, qa * 3 + 2, none⟩ (.int .i64 n2)).heap.size := by rw [hzy5]; exact hBp51.size
        clear p51A0 p51A1 p51A2 p51A3 p51A4 p51A5 p51A6 p51A7 p51B0 p51B1 p51B2 p51B3 p51B4 p51B5 p51C0 p51C1 p51C2 p51C3 p51C4 p51C5 p51C6 p51C7 p51D0 p51D1 p51D2 p51E0 p51E1 p51E2 p51f1 p51f2 p51f3 p51o0 p51n0 p51o1 p51n1 p51o2 p51n2 p51o3 p51n3 p51o4 p51n4 hBp51
        generalize hWy5 : ((p5w1.setCell ⟨ib, qa * 3, none⟩ (.int .i64 n0)).setCell ⟨ib, qa * 3 + 1, none⟩ (.int .i64 n1)).setCell ⟨ib, qa * 3 + 2, none⟩ (.int .i64 n2) = y5 at *
        clear hWy5
        have q1y5 : w.heap.size < y5.heap.size := by omega
        have q2y5 : ib < y5.heap.size := by omega
        have q3y5 : sb < y5.heap.size := by omega
        have q4y5 : tb < y5.heap.size := by omega
        have q5y5 : v < y5.heap.size := by omega
        have hr : Hid ((0 : Int) = E) := Lib.hid (by rw [← hE.out]; unfold pos1; rw [if_neg (by omega), if_neg (by omega), if_neg (by omega), if_neg (fun hx => by simp at hx)])
        go_wp2
        go_ret
        exact ⟨ret_int hr.out, Or.inr ⟨hr.out.symm, (by simp [go_sem, *]), (by simp [go_sem, *]), (by simp [go_sem, *]), (by simp [go_sem, *]), (by simp [go_sem, *]), (by simp [go_sem, *]), (by simp [go_sem, *]), (by simp [go_sem, *]), (by simp [go_sem, *]), (by simp [go_sem, *]), (by simp [go_sem, *]), (by simp [go_sem, *]), (by simp [go_sem, *]), (by simp [go_sem, *]), fun q u0 u1 u2 u3 u4 u5 => (sblk (by first | assumption | omega)).trans (hVy5 q u0 u1 u2 u3 u4 u5), (fun j => by simp [go_sem, *]), (fun j => by simp [go_sem, *]), hDy5.set sb 7 _ (Or.inl rfl)⟩⟩
end Go.Proofs.Ytjkhjjmmkdfjmaa
