import Derived.Test.YtjkhjjmmkdfjmaaGTFShare2
import Derived.Test.YtjkhjjmmkdfjmaaGTFRatio
import Derived.Test.YtjkhjjmmkdfjmaaGTFNamed
import Derived.Outline
namespace Go.Proofs.Ytjkhjjmmkdfjmaa
open Go.ChangeShapes Go.WideShapes Go.ChangeAt Go.RowKit
set_option linter.unusedVariables false
set_option linter.unusedSimpArgs false
attribute [local go_sem ↓] Go.wp_at_zero Go.wp_at_succ
theorem plus_any (a b c x y z p q r : Int) (w : World) (a0 : 0 ≤ a) (a1 : a ≤ 1000000000000) (b0 : 0 ≤ b) (b1 : b ≤ 1000000000000) (c0 : 0 ≤ c) (c1 : c ≤ 1000000000000) (x0 : 0 ≤ x) (x1 : x ≤ 1000000000000) (y0 : 0 ≤ y) (y1 : y ≤ 1000000000000) (z0 : 0 ≤ z) (z1 : z ≤ 1000000000000) (hp : Hid (a + x = p ∧ b + y = q ∧ c + z = r)) :
    Calls Try.prog 100 #[.agg #[.int .i64 a, .int .i64 b, .int .i64 c], .agg #[.int .i64 x, .int .i64 y, .int .i64 z]] w fun e w' => e = .returned (.agg #[.int .i64 p, .int .i64 q, .int .i64 r]) ∧ Below w.heap.size w w' := by
  have e1 : a + x = p := hp.out.1
  have e2 : b + y = q := hp.out.2.1
  have e3 : c + z = r := hp.out.2.2
  clear hp
  go_enter Try.func100, Try.ntmps100
  go_wp2
  refine bodyPost_ret (v := .agg #[.int .i64 p, .int .i64 q, .int .i64 r]) (by simp [results, Try.results100, go_sem]) rfl ⟨rfl, ?_⟩
  exact belA
theorem without_any (a b c x y z p q r : Int) (w : World) (a0 : 0 ≤ a) (a1 : a ≤ 1000000000000) (b0 : 0 ≤ b) (b1 : b ≤ 1000000000000) (c0 : 0 ≤ c) (c1 : c ≤ 1000000000000) (x0 : 0 ≤ x) (x1 : x ≤ 1000000000000) (y0 : 0 ≤ y) (y1 : y ≤ 1000000000000) (z0 : 0 ≤ z) (z1 : z ≤ 1000000000000) (hp : Hid (a - x = p ∧ b - y = q ∧ c - z = r)) :
    Calls Try.prog 99 #[.agg #[.int .i64 a, .int .i64 b, .int .i64 c], .agg #[.int .i64 x, .int .i64 y, .int .i64 z]] w fun e w' => e = .returned (.agg #[.int .i64 p, .int .i64 q, .int .i64 r]) ∧ Below w.heap.size w w' := by
  have e1 : a - x = p := hp.out.1
  have e2 : b - y = q := hp.out.2.1
  have e3 : c - z = r := hp.out.2.2
  clear hp
  go_enter Try.func99, Try.ntmps99
  go_wp2
  refine bodyPost_ret (v := .agg #[.int .i64 p, .int .i64 q, .int .i64 r]) (by simp [results, Try.results99, go_sem]) rfl ⟨rfl, ?_⟩
  exact belA
theorem pressureWith_any (s : ByteArray) (vo mo a b c n S P : Int) (w : World) (hc : Hid (conB a b c = true)) (hS : Hid (a + b + c = S)) (s0 : 0 ≤ S) (s1 : S ≤ 1000000000) (n0 : -1000000000 ≤ n) (n1 : n ≤ 1000000000) (hP : Hid (1000 * (S + n) = P)) :
    Calls Try.prog 68 #[.agg #[.string s, .int .i64 vo, .int .i64 mo, .int .i64 a, .int .i64 b, .int .i64 c], .int .i64 n] w fun e w' => e = .returned (.agg #[.int .i64 P, .int .i64 vo]) ∧ Below w.heap.size w w' := by
  have e1 : IntKind.i64.wrap (S + n) = S + n := IntWalk.i64_in _ (by omega)
  have e2 : IntKind.i64.wrap (1000 * (S + n)) = P := by rw [hP.out]; exact IntWalk.i64_in _ (by have := hP.out; omega)
  go_enter Try.func68, Try.ntmps68
  go_upto_region 1 with (fail)
  refine wp_region_held_drew (S := (fun w' => w'.cell? ⟨w.heap.size, 0, none⟩ = some (.string s) ∧ w'.cell? ⟨w.heap.size, 1, none⟩ = some (.int .i64 vo) ∧ w'.cell? ⟨w.heap.size, 2, none⟩ = some (.int .i64 mo) ∧ w'.cell? ⟨w.heap.size, 3, none⟩ = some (.int .i64 a) ∧ w'.cell? ⟨w.heap.size, 4, none⟩ = some (.int .i64 b) ∧ w'.cell? ⟨w.heap.size, 5, none⟩ = some (.int .i64 c))) (by kernel_rfl) (by simp [go_sem, cP, *]) (fun hHeld => ?_)
  refine tkA 0 5 rfl ?_
  refine tkA 1 6 rfl ?_
  refine tkA 3 8 rfl ?_
  refine tkA 6 11 rfl ?_
  refine tkA 7 12 rfl ?_
  refine tkA 8 13 rfl ?_
  refine rdA 2 rfl (fun K hK => ?_)
  go_simp
  refine (sumOf_ok a b c S _ hc hS).mono ?_
  rintro e xw1 ⟨rfl, hbx1⟩
  have zx1 := hbx1.size
  try simp at zx1
  obtain ⟨x1A0, x1A1, x1A2, x1A3, x1A4, x1A5, x1B0, x1B1⟩ : xw1.cell? ⟨w.heap.size, 0, none⟩ = some (.string s) ∧ xw1.cell? ⟨w.heap.size, 1, none⟩ = some (.int .i64 vo) ∧ xw1.cell? ⟨w.heap.size, 2, none⟩ = some (.int .i64 mo) ∧ xw1.cell? ⟨w.heap.size, 3, none⟩ = some (.int .i64 a) ∧ xw1.cell? ⟨w.heap.size, 4, none⟩ = some (.int .i64 b) ∧ xw1.cell? ⟨w.heap.size, 5, none⟩ = some (.int .i64 c) ∧ xw1.cell? ⟨w.heap.size + 1, 0, none⟩ = some (.int .i64 0) ∧ xw1.cell? ⟨w.heap.size + 1, 1, none⟩ = some (.int .i64 0) := by refine ⟨?_, ?_, ?_, ?_, ?_, ?_, ?_, ?_⟩ <;> (rw [bc1 hbx1]; simp [go_sem, cP, *])
  have x1f1 : (∀ j, xw1.frozen? ⟨w.heap.size + 1, j, none⟩ = false) := by (intro j; rw [bc2 hbx1]; simp [go_sem, *])
  obtain ⟨x1o0, x1n0, x1o1, x1n1⟩ : w.heap.size < xw1.heap.size ∧ xw1.heap.size ≠ w.heap.size ∧ w.heap.size + 1 < xw1.heap.size ∧ xw1.heap.size ≠ w.heap.size + 1 := by refine ⟨?_, ?_, ?_, ?_⟩ <;> omega
  have hBx1 : Below w.heap.size w xw1 := belA
  clear hbx1 
  go_wp2_with fail
  refine hK.out _ _ (by simp [go_sem, cP, *]) (fun hHeld => ?_)
  clear hK K
  try simp only [Act.put, sA, sB, sC]
  refine tkA 4 9 rfl ?_
  refine tkA 5 10 rfl ?_
  refine tkA 9 14 rfl ?_
  refine rdA 10 rfl (fun K hK => ?_)
  go_simp
  go_wp2_with fail
  refine hK.out _ _ (by simp [go_sem, cP, *]) (fun hHeld => ?_)
  clear hK K
  try simp only [Act.put, sA, sB, sC]
  refine wpAnyH_done (by kernel_rfl) ?_ _
  go_wp2
  refine bodyPost_ret (v := .agg #[.int .i64 P, .int .i64 vo]) (by simp [results, Try.results68, go_sem, *]) rfl ⟨rfl, ?_⟩
  exact belA
end Go.Proofs.Ytjkhjjmmkdfjmaa
