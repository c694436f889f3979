import Derived.Test.YtjkhjjmmkdfjmaaMCMxOf
import Derived.Outline
namespace Go.Proofs.Ytjkhjjmmkdfjmaa
open Go.ChangeShapes Go.WideShapes Go.ChangeAt Go.RowKit
set_option linter.unusedVariables false
set_option linter.unusedSimpArgs false
attribute [local go_sem ↓] Go.wp_at_zero Go.wp_at_succ
set_option maxHeartbeats 4000000 in
set_option maxRecDepth 100000 in
theorem refPressureOf_any (nm : ByteArray) (v m a b c S : Int) (w : World) (hc : Hid (conB a b c = true)) (hS : Hid (a + b + c = S)) (v1 : 1 ≤ v) (v2 : v ≤ 1000000) : Calls Try.prog 29 #[.agg #[.string nm, .int .i64 v, .int .i64 m], .agg #[.int .i64 a, .int .i64 b, .int .i64 c]] w fun e w' => e = .returned (.agg #[.int .i64 (1000 * S / v), .int .i64 (upI (1000 * S) v)]) ∧ Below w.heap.size w w' := by
  obtain ⟨ca, cb, cc, cs⟩ := conB_iff.1 hc.out
  have S0 : 0 ≤ S ∧ S ≤ 1000000000 := by have := hS.out; omega
  have W1 : IntKind.i64.wrap (1000 * S) = 1000 * S := IntWalk.i64_in _ (by omega)
  go_enter Try.func29, Try.ntmps29
  go_upto_region 1 with (fail)
  refine wp_region_held_drew (S := (fun w' => w'.cell? ⟨w.heap.size + 1, 0, none⟩ = some (.int .i64 a) ∧ w'.cell? ⟨w.heap.size + 1, 1, none⟩ = some (.int .i64 b) ∧ w'.cell? ⟨w.heap.size + 1, 2, none⟩ = some (.int .i64 c) ∧ w'.cell? ⟨w.heap.size, 1, none⟩ = some (.int .i64 v))) (by kernel_rfl) (by simp [go_sem, cP, *]) (fun hHeld => ?_)
  refine tkA 0 5 rfl ?_
  refine tkA 3 8 rfl ?_
  refine tkA 4 9 rfl ?_
  refine rdA 1 rfl (fun K hK => ?_)
  go_simp
  refine (refSum_ok a b c S _ hc hS).mono ?_
  rintro e u1 ⟨rfl, hb1⟩
  have z1 := hb1.size
  try simp at z1
  obtain ⟨aq0, aq1, aq2, aq3, aq4, aq5⟩ : u1.cell? ⟨w.heap.size + 1, 0, none⟩ = some (.int .i64 a) ∧ u1.cell? ⟨w.heap.size + 1, 1, none⟩ = some (.int .i64 b) ∧ u1.cell? ⟨w.heap.size + 1, 2, none⟩ = some (.int .i64 c) ∧ u1.cell? ⟨w.heap.size, 1, none⟩ = some (.int .i64 v) ∧ u1.cell? ⟨w.heap.size + 1 + 1, 0, none⟩ = some (.int .i64 0) ∧ u1.cell? ⟨w.heap.size + 1 + 1, 1, none⟩ = some (.int .i64 0) := by refine ⟨?_, ?_, ?_, ?_, ?_, ?_⟩ <;> (rw [bc1 hb1]; simp [go_sem, cP, *])
  have aqf : ∀ j, u1.frozen? ⟨w.heap.size + 1 + 1, j, none⟩ = false := fun j => by rw [bc2 hb1]; simp [go_sem, *]
  have l1 : w.heap.size + 1 + 1 < u1.heap.size := by omega
  have n1 : u1.heap.size ≠ w.heap.size + 1 + 1 := by omega
  have hB1 : Below w.heap.size w u1 := (show Below w.heap.size w _ from belA).trans (hb1.mono (by simp; omega))
  go_wp2_with fail
  refine hK.out _ _ (by simp [go_sem, cP, *]) (fun hHeld => ?_)
  clear hK K
  clear hb1
  try simp only [Act.put, sA, sB, sC]
  refine tkA 2 7 rfl ?_
  refine rdA 5 rfl (fun K hK => ?_)
  go_simp
  refine (refRounded_nn (1000 * S) v (1000 * S / v) (upI (1000 * S) v) _ (by omega) (by omega) (by omega) (by omega) (Lib.hid rfl) (Lib.hid rfl)).mono ?_
  rintro e u2 ⟨rfl, hb2⟩
  have z2 := hb2.size
  try simp at z2
  obtain ⟨bq0, bq1, bq2, bq3, bq4, bq5⟩ : u2.cell? ⟨w.heap.size + 1, 0, none⟩ = some (.int .i64 a) ∧ u2.cell? ⟨w.heap.size + 1, 1, none⟩ = some (.int .i64 b) ∧ u2.cell? ⟨w.heap.size + 1, 2, none⟩ = some (.int .i64 c) ∧ u2.cell? ⟨w.heap.size, 1, none⟩ = some (.int .i64 v) ∧ u2.cell? ⟨w.heap.size + 1 + 1, 0, none⟩ = some (.int .i64 0) ∧ u2.cell? ⟨w.heap.size + 1 + 1, 1, none⟩ = some (.int .i64 0) := by refine ⟨?_, ?_, ?_, ?_, ?_, ?_⟩ <;> (rw [bc1 hb2]; simp [go_sem, cP, *])
  have bqf : ∀ j, u2.frozen? ⟨w.heap.size + 1 + 1, j, none⟩ = false := fun j => by rw [bc2 hb2]; simp [go_sem, *]
  have l2 : w.heap.size + 1 + 1 < u2.heap.size := by omega
  have n2 : u2.heap.size ≠ w.heap.size + 1 + 1 := by omega
  have hB2 : Below w.heap.size w u2 := hB1.trans (hb2.mono hB1.size)
  go_wp2_with fail
  refine hK.out _ _ (by simp [go_sem, cP, *]) (fun hHeld => ?_)
  clear hK K
  clear hb2
  clear aq0 aq1 aq2 aq3 aq4 aq5 aqf
  try simp only [Act.put, sA, sB, sC]
  refine rdA 6 rfl (fun K hK => ?_)
  go_simp
  go_wp2_with fail
  refine hK.out _ _ (by simp [go_sem, cP, *]) (fun hHeld => ?_)
  clear hK K
  try simp only [Act.put, sA, sB, sC]
  refine wpAnyH_done (by kernel_rfl) ?_ _
  go_wp2
  refine bodyPost_ret (v := .agg #[.int .i64 (1000 * S / v), .int .i64 (upI (1000 * S) v)]) (by simp [results, Try.results29, go_sem, *]) rfl ⟨rfl, ?_⟩
  exact belA
set_option maxHeartbeats 4000000 in
set_option maxRecDepth 100000 in
theorem refMixtureOf_any (a b c S : Int) (w : World) (hc : Hid (conB a b c = true)) (hS : Hid (a + b + c = S)) (s1 : 1 ≤ S) : Calls Try.prog 31 #[.agg #[.int .i64 a, .int .i64 b, .int .i64 c]] w fun e w' => e = .returned (.agg #[.int .i64 (1000 * a / S), .int .i64 (upI (1000 * a) S), .int .i64 (1000 * b / S), .int .i64 (upI (1000 * b) S)]) ∧ Below w.heap.size w w' := by
  obtain ⟨ca, cb, cc, cs⟩ := conB_iff.1 hc.out
  have S0 : 0 ≤ S ∧ S ≤ 1000000000 := by have := hS.out; omega
  have W1 : IntKind.i64.wrap (1000 * a) = 1000 * a := IntWalk.i64_in _ (by omega)
  have W2 : IntKind.i64.wrap (1000 * b) = 1000 * b := IntWalk.i64_in _ (by omega)
  go_enter Try.func31, Try.ntmps31
  go_upto_region 1 with (fail)
  refine wp_region_held_drew (S := (fun w' => w'.cell? ⟨w.heap.size, 0, none⟩ = some (.int .i64 a) ∧ w'.cell? ⟨w.heap.size, 1, none⟩ = some (.int .i64 b) ∧ w'.cell? ⟨w.heap.size, 2, none⟩ = some (.int .i64 c))) (by kernel_rfl) (by simp [go_sem, cP, *]) (fun hHeld => ?_)
  refine tkA 0 3 rfl ?_
  refine tkA 1 4 rfl ?_
  refine tkA 2 5 rfl ?_
  refine tkA 3 6 rfl ?_
  refine tkA 6 9 rfl ?_
  refine tkA 7 10 rfl ?_
  refine tkA 8 11 rfl ?_
  refine tkA 9 12 rfl ?_
  refine rdA 4 rfl (fun K hK => ?_)
  go_simp
  refine (refSum_ok a b c S _ hc hS).mono ?_
  rintro e u1 ⟨rfl, hb1⟩
  have z1 := hb1.size
  try simp at z1
  obtain ⟨aq0, aq1, aq2, aq3, aq4, aq5, aq6⟩ : u1.cell? ⟨w.heap.size, 0, none⟩ = some (.int .i64 a) ∧ u1.cell? ⟨w.heap.size, 1, none⟩ = some (.int .i64 b) ∧ u1.cell? ⟨w.heap.size, 2, none⟩ = some (.int .i64 c) ∧ u1.cell? ⟨w.heap.size + 1, 0, none⟩ = some (.int .i64 0) ∧ u1.cell? ⟨w.heap.size + 1, 1, none⟩ = some (.int .i64 0) ∧ u1.cell? ⟨w.heap.size + 1, 2, none⟩ = some (.int .i64 0) ∧ u1.cell? ⟨w.heap.size + 1, 3, none⟩ = some (.int .i64 0) := by refine ⟨?_, ?_, ?_, ?_, ?_, ?_, ?_⟩ <;> (rw [bc1 hb1]; simp [go_sem, cP, *])
  have aqf : ∀ j, u1.frozen? ⟨w.heap.size + 1, j, none⟩ = false := fun j => by rw [bc2 hb1]; simp [go_sem, *]
  have l1 : w.heap.size + 1 < u1.heap.size := by omega
  have n1 : u1.heap.size ≠ w.heap.size + 1 := by omega
  have hB1 : Below w.heap.size w u1 := (show Below w.heap.size w _ from belA).trans (hb1.mono (by simp; omega))
  go_wp2_with fail
  refine hK.out _ _ (by simp [go_sem, cP, *]) (fun hHeld => ?_)
  clear hK K
  clear hb1
  try simp only [Act.put, sA, sB, sC]
  refine rdA 5 rfl (fun K hK => ?_)
  go_simp
  refine (refRounded_nn (1000 * a) S (1000 * a / S) (upI (1000 * a) S) _ (by omega) (by omega) (by omega) (by omega) (Lib.hid rfl) (Lib.hid rfl)).mono ?_
  rintro e u2 ⟨rfl, hb2⟩
  have z2 := hb2.size
  try simp at z2
  obtain ⟨bq0, bq1, bq2, bq3, bq4, bq5, bq6⟩ : u2.cell? ⟨w.heap.size, 0, none⟩ = some (.int .i64 a) ∧ u2.cell? ⟨w.heap.size, 1, none⟩ = some (.int .i64 b) ∧ u2.cell? ⟨w.heap.size, 2, none⟩ = some (.int .i64 c) ∧ u2.cell? ⟨w.heap.size + 1, 0, none⟩ = some (.int .i64 0) ∧ u2.cell? ⟨w.heap.size + 1, 1, none⟩ = some (.int .i64 0) ∧ u2.cell? ⟨w.heap.size + 1, 2, none⟩ = some (.int .i64 0) ∧ u2.cell? ⟨w.heap.size + 1, 3, none⟩ = some (.int .i64 0) := by refine ⟨?_, ?_, ?_, ?_, ?_, ?_, ?_⟩ <;> (rw [bc1 hb2]; simp [go_sem, cP, *])
  have bqf : ∀ j, u2.frozen? ⟨w.heap.size + 1, j, none⟩ = false := fun j => by rw [bc2 hb2]; simp [go_sem, *]
  have l2 : w.heap.size + 1 < u2.heap.size := by omega
  have n2 : u2.heap.size ≠ w.heap.size + 1 := by omega
  have hB2 : Below w.heap.size w u2 := hB1.trans (hb2.mono hB1.size)
  go_wp2_with fail
  refine hK.out _ _ (by simp [go_sem, cP, *]) (fun hHeld => ?_)
  clear hK K
  clear hb2
  clear aq0 aq1 aq2 aq3 aq4 aq5 aq6 aqf
  try simp only [Act.put, sA, sB, sC]
  refine rdA 10 rfl (fun K hK => ?_)
  go_simp
  refine (refSum_ok a b c S _ hc hS).mono ?_
  rintro e u3 ⟨rfl, hb3⟩
  have z3 := hb3.size
  try simp at z3
  obtain ⟨cq0, cq1, cq2, cq3, cq4, cq5, cq6⟩ : u3.cell? ⟨w.heap.size, 0, none⟩ = some (.int .i64 a) ∧ u3.cell? ⟨w.heap.size, 1, none⟩ = some (.int .i64 b) ∧ u3.cell? ⟨w.heap.size, 2, none⟩ = some (.int .i64 c) ∧ u3.cell? ⟨w.heap.size + 1, 0, none⟩ = some (.int .i64 0) ∧ u3.cell? ⟨w.heap.size + 1, 1, none⟩ = some (.int .i64 0) ∧ u3.cell? ⟨w.heap.size + 1, 2, none⟩ = some (.int .i64 0) ∧ u3.cell? ⟨w.heap.size + 1, 3, none⟩ = some (.int .i64 0) := by refine ⟨?_, ?_, ?_, ?_, ?_, ?_, ?_⟩ <;> (rw [bc1 hb3]; simp [go_sem, cP, *])
  have cqf : ∀ j, u3.frozen? ⟨w.heap.size + 1, j, none⟩ = false := fun j => by rw [bc2 hb3]; simp [go_sem, *]
  have l3 : w.heap.size + 1 < u3.heap.size := by omega
  have n3 : u3.heap.size ≠ w.heap.size + 1 := by omega
  have hB3 : Below w.heap.size w u3 := hB2.trans (hb3.mono hB2.size)
  go_wp2_with fail
  refine hK.out _ _ (by simp [go_sem, cP, *]) (fun hHeld => ?_)
  clear hK K
  clear hb3
  clear bq0 bq1 bq2 bq3 bq4 bq5 bq6 bqf
  try simp only [Act.put, sA, sB, sC]
  refine rdA 11 rfl (fun K hK => ?_)
  go_simp
  refine (refRounded_nn (1000 * b) S (1000 * b / S) (upI (1000 * b) S) _ (by omega) (by omega) (by omega) (by omega) (Lib.hid rfl) (Lib.hid rfl)).mono ?_
  rintro e u4 ⟨rfl, hb4⟩
  have z4 := hb4.size
  try simp at z4
  obtain ⟨dq0, dq1, dq2, dq3, dq4, dq5, dq6⟩ : u4.cell? ⟨w.heap.size, 0, none⟩ = some (.int .i64 a) ∧ u4.cell? ⟨w.heap.size, 1, none⟩ = some (.int .i64 b) ∧ u4.cell? ⟨w.heap.size, 2, none⟩ = some (.int .i64 c) ∧ u4.cell? ⟨w.heap.size + 1, 0, none⟩ = some (.int .i64 0) ∧ u4.cell? ⟨w.heap.size + 1, 1, none⟩ = some (.int .i64 0) ∧ u4.cell? ⟨w.heap.size + 1, 2, none⟩ = some (.int .i64 0) ∧ u4.cell? ⟨w.heap.size + 1, 3, none⟩ = some (.int .i64 0) := by refine ⟨?_, ?_, ?_, ?_, ?_, ?_, ?_⟩ <;> (rw [bc1 hb4]; simp [go_sem, cP, *])
  have dqf : ∀ j, u4.frozen? ⟨w.heap.size + 1, j, none⟩ = false := fun j => by rw [bc2 hb4]; simp [go_sem, *]
  have l4 : w.heap.size + 1 < u4.heap.size := by omega
  have n4 : u4.heap.size ≠ w.heap.size + 1 := by omega
  have hB4 : Below w.heap.size w u4 := hB3.trans (hb4.mono hB3.size)
  go_wp2_with fail
  refine hK.out _ _ (by simp [go_sem, cP, *]) (fun hHeld => ?_)
  clear hK K
  clear hb4
  clear cq0 cq1 cq2 cq3 cq4 cq5 cq6 cqf
  try simp only [Act.put, sA, sB, sC]
  refine tkA 12 15 rfl ?_
  refine rdA 13 rfl (fun K hK => ?_)
  go_simp
  go_wp2_with fail
  refine hK.out _ _ (by simp [go_sem, cP, *]) (fun hHeld => ?_)
  clear hK K
  try simp only [Act.put, sA, sB, sC]
  refine wpAnyH_done (by kernel_rfl) ?_ _
  go_wp2
  refine bodyPost_ret (v := .agg #[.int .i64 (1000 * a / S), .int .i64 (upI (1000 * a) S), .int .i64 (1000 * b / S), .int .i64 (upI (1000 * b) S)]) (by simp [results, Try.results31, go_sem, *]) rfl ⟨rfl, ?_⟩
  exact belA
end Go.Proofs.Ytjkhjjmmkdfjmaa
