import Derived.Test.YtjkhjjmmkdfjmaaGTFRoom1
import Derived.Test.YtjkhjjmmkdfjmaaGTLastReg
import Derived.Outline
namespace Go.Proofs.Ytjkhjjmmkdfjmaa
open Go.ChangeShapes Go.WideShapes Go.ChangeAt Go.RowKit
set_option linter.unusedVariables false
set_option linter.unusedSimpArgs false
attribute [local go_sem ↓] Go.wp_at_zero Go.wp_at_succ
theorem gasE_zB {o h : Int} (hg : gasE o h = 0) : 0 ≤ o ∧ o ≤ 1000 ∧ 0 ≤ h ∧ h ≤ 1000 ∧ o + h ≤ 1000 := by
  unfold gasE at hg
  by_cases h1 : inB o 0 1000 = true ∧ inB h 0 1000 = true
  · rw [if_pos h1] at hg
    obtain ⟨⟨a, b⟩, c, d⟩ := And.intro (inB_iff.1 h1.1) (inB_iff.1 h1.2)
    by_cases h2 : o + h ≤ 1000
    · exact ⟨a, b, c, d, h2⟩
    · rw [if_neg h2] at hg; exact absurd hg (by omega)
  · rw [if_neg h1] at hg; exact absurd hg (by omega)
theorem bri_math {o h am X Y Z : Int} (hg : gasE o h = 0) (am1 : 1 ≤ am) (am2 : am ≤ 1000000000) (hX : am * o / 1000 = X) (hY : am * h / 1000 = Y) (hZ : am - (X + Y) = Z) : 0 ≤ am * o ∧ am * o ≤ 1000000000000 ∧ 0 ≤ am * h ∧ am * h ≤ 1000000000000 ∧ conB X Y 0 = true ∧ conB X Y Z = true ∧ X + Y + Z = am ∧ 0 ≤ X ∧ 0 ≤ Y ∧ 0 ≤ Z ∧ X ≤ 1000000000 ∧ Y ≤ 1000000000 ∧ Z ≤ 1000000000 := by
  obtain ⟨g1, g2, g3, g4, g5⟩ := gasE_zB hg
  have p1 : 0 ≤ am * o := Int.mul_nonneg (by omega) g1
  have p2 : 0 ≤ am * h := Int.mul_nonneg (by omega) g3
  have p3 : am * o + am * h ≤ am * 1000 := by rw [← Int.mul_add]; exact Int.mul_le_mul_of_nonneg_left g5 (by omega)
  generalize am * o = P at *
  generalize am * h = Q at *
  have x0 : 0 ≤ X ∧ 0 ≤ Y ∧ X + Y ≤ am := by omega
  refine ⟨p1, by omega, p2, by omega, conB_iff.2 (by omega), conB_iff.2 (by omega), by omega, x0.1, x0.2.1, by omega, by omega, by omega, by omega⟩
set_option maxHeartbeats 1000000 in
set_option maxRecDepth 100000 in
theorem broughtIn_any (k d o h am X Y Z : Int) (fr tz : ByteArray) (pu : Bool) (w : World) (hG : Hid (gasE o h = 0)) (am1 : 1 ≤ am) (am2 : am ≤ 1000000000) (hX : Hid (am * o / 1000 = X)) (hY : Hid (am * h / 1000 = Y)) (hZ : Hid (am - (X + Y) = Z)) : Calls Try.prog 98 #[.agg #[.int .i64 k, .int .i64 d, .string fr, .string tz, .int .i64 o, .int .i64 h, .int .i64 am, .bool pu]] w fun e w' => e = .returned (.agg #[.int .i64 X, .int .i64 Y, .int .i64 Z]) ∧ Below w.heap.size w w' := by
  obtain ⟨a1, a2, a3, a4, c1, c2, e1, x0, y0, z0, x1, y1, z1⟩ := bri_math hG.out am1 am2 hX.out hY.out hZ.out
  have hc1 := Lib.hid c1
  clear c1 c2
  obtain ⟨P, hP⟩ : ∃ P, Hid (am * o = P) := ⟨_, Lib.hid rfl⟩
  obtain ⟨Q, hQ⟩ : ∃ Q, Hid (am * h = Q) := ⟨_, Lib.hid rfl⟩
  rw [hP.out] at a1 a2
  rw [hQ.out] at a3 a4
  have hX' := hX.out
  have hY' := hY.out
  rw [hP.out] at hX'
  rw [hQ.out] at hY'
  have w1 : IntKind.i64.wrap (am * o) = P := by rw [hP.out]; exact IntWalk.i64_in _ (by omega)
  have w2 : IntKind.i64.wrap (am * h) = Q := by rw [hQ.out]; exact IntWalk.i64_in _ (by omega)
  have q1 : IntKind.i64.wrap (P.tdiv 1000) = X := by rw [Int.tdiv_eq_ediv_of_nonneg a1, hX']; exact IntWalk.i64_in _ (by omega)
  have q2 : IntKind.i64.wrap (Q.tdiv 1000) = Y := by rw [Int.tdiv_eq_ediv_of_nonneg a3, hY']; exact IntWalk.i64_in _ (by omega)
  obtain ⟨s, hs⟩ : ∃ s, Hid (X + Y + 0 = s) := ⟨_, Lib.hid rfl⟩
  have w3 : IntKind.i64.wrap (am - s) = Z := by rw [show am - s = Z by have := hs.out; have := hZ.out; omega]; exact IntWalk.i64_in _ (by omega)
  clear hX' hY' e1
  go_enter Try.func98, Try.ntmps98
  go_upto_region 2 with (fail)
  refine wp_region_Z (S := (fun w' => w'.cell? ⟨w.heap.size, 0, none⟩ = some (.int .i64 k) ∧ w'.cell? ⟨w.heap.size, 1, none⟩ = some (.int .i64 d) ∧ w'.cell? ⟨w.heap.size, 2, none⟩ = some (.string fr) ∧ w'.cell? ⟨w.heap.size, 3, none⟩ = some (.string tz) ∧ w'.cell? ⟨w.heap.size, 4, none⟩ = some (.int .i64 o) ∧ w'.cell? ⟨w.heap.size, 5, none⟩ = some (.int .i64 h) ∧ w'.cell? ⟨w.heap.size, 6, none⟩ = some (.int .i64 am) ∧ w'.cell? ⟨w.heap.size, 7, none⟩ = some (.bool pu) ∧ w'.cell? ⟨w.heap.size + 1 + 1, 0, none⟩ = some (.int .i64 X) ∧ w'.cell? ⟨w.heap.size + 1 + 1, 1, none⟩ = some (.int .i64 Y) ∧ w'.cell? ⟨w.heap.size + 1 + 1, 2, none⟩ = some (.int .i64 0))) 6 (by kernel_rfl) (by kernel_rfl) (by kernel_rfl) (by simp [go_sem, cP, *]) (fun hHeld => ?_)
  refine tzA 0 19 rfl ?_
  refine tzA 1 20 rfl ?_
  refine tzA 2 21 rfl ?_
  refine wpAnyZ_call (q := 3) (by kernel_rfl) rfl rfl (fun K hK => ?_)
  go_simp
  refine (sumOf_ok X Y 0 s _ hc1 hs).mono ?_
  rintro e xw1 ⟨rfl, hbx1⟩
  have zx1 := hbx1.size
  try simp at zx1
  obtain ⟨x1A0, x1A1, x1A2, x1A3, x1A4, x1A5, x1A6, x1A7, x1B0, x1B1, x1B2, x1C0, x1C1, x1C2⟩ : xw1.cell? ⟨w.heap.size, 0, none⟩ = some (.int .i64 k) ∧ xw1.cell? ⟨w.heap.size, 1, none⟩ = some (.int .i64 d) ∧ xw1.cell? ⟨w.heap.size, 2, none⟩ = some (.string fr) ∧ xw1.cell? ⟨w.heap.size, 3, none⟩ = some (.string tz) ∧ xw1.cell? ⟨w.heap.size, 4, none⟩ = some (.int .i64 o) ∧ xw1.cell? ⟨w.heap.size, 5, none⟩ = some (.int .i64 h) ∧ xw1.cell? ⟨w.heap.size, 6, none⟩ = some (.int .i64 am) ∧ xw1.cell? ⟨w.heap.size, 7, none⟩ = some (.bool pu) ∧ xw1.cell? ⟨w.heap.size + 1, 0, none⟩ = some (.int .i64 0) ∧ xw1.cell? ⟨w.heap.size + 1, 1, none⟩ = some (.int .i64 0) ∧ xw1.cell? ⟨w.heap.size + 1, 2, none⟩ = some (.int .i64 0) ∧ xw1.cell? ⟨w.heap.size + 1 + 1, 0, none⟩ = some (.int .i64 X) ∧ xw1.cell? ⟨w.heap.size + 1 + 1, 1, none⟩ = some (.int .i64 Y) ∧ xw1.cell? ⟨w.heap.size + 1 + 1, 2, none⟩ = some (.int .i64 0) := by refine ⟨?_, ?_, ?_, ?_, ?_, ?_, ?_, ?_, ?_, ?_, ?_, ?_, ?_, ?_⟩ <;> (rw [bc1 hbx1]; simp [go_sem, cP, *])
  obtain ⟨x1f1, x1f2⟩ : (∀ j, xw1.frozen? ⟨w.heap.size + 1, j, none⟩ = false) ∧ (∀ j, xw1.frozen? ⟨w.heap.size + 1 + 1, j, none⟩ = false) := by refine ⟨?_, ?_⟩ <;> (intro j; rw [bc2 hbx1]; simp [go_sem, *])
  obtain ⟨x1o0, x1n0, x1o1, x1n1, x1o2, x1n2⟩ : w.heap.size < xw1.heap.size ∧ xw1.heap.size ≠ w.heap.size ∧ w.heap.size + 1 < xw1.heap.size ∧ xw1.heap.size ≠ w.heap.size + 1 ∧ w.heap.size + 1 + 1 < xw1.heap.size ∧ xw1.heap.size ≠ w.heap.size + 1 + 1 := by refine ⟨?_, ?_, ?_, ?_, ?_, ?_⟩ <;> omega
  have hBx1 : Below w.heap.size w xw1 := belA
  clear hbx1 
  go_wp2_with fail
  refine hK.out _ _ (by simp [go_sem, cP, *]) (fun hHeld => ?_)
  clear hK K
  try simp only [Act.put, List.setIfInBounds_toArray, List.set_cons_zero, List.set_cons_succ]
  refine tzA 4 23 rfl ?_
  refine tzA 5 24 rfl ?_
  refine wpAnyZ_last (by kernel_rfl) rfl (fun K hK => ?_)
  go_simp
  go_wp2_with fail
  refine hK.out _ _ ?_
  clear hK K
  try simp only [Act.put, List.setIfInBounds_toArray, List.set_cons_zero, List.set_cons_succ]
  go_wp2
  refine bodyPost_ret (v := .agg #[.int .i64 X, .int .i64 Y, .int .i64 Z]) (by simp [results, Try.results98, go_sem, *]) rfl ⟨rfl, ?_⟩
  exact belA
end Go.Proofs.Ytjkhjjmmkdfjmaa

namespace Go.Proofs.Ytjkhjjmmkdfjmaa
open Go.ChangeShapes Go.WideShapes Go.ChangeAt Go.RowKit
set_option linter.unusedVariables false
set_option linter.unusedSimpArgs false
attribute [local go_sem ↓] Go.wp_at_zero Go.wp_at_succ
/-- All blocks below N are as they were, but two. -/
structure BelowD (x y N : Nat) (w w' : World) : Prop where
  os : w'.os = w.os
  tape : w'.tape = w.tape
  output : w'.output = w.output
  size : w.heap.size ≤ w'.heap.size
  block : ∀ k, k < N → k ≠ x → k ≠ y → w'.heap[k]? = w.heap[k]?
theorem BelowD.trans {x y N : Nat} {a b c : World} (h : BelowD x y N a b) (k : BelowD x y N b c) : BelowD x y N a c :=
  ⟨k.os.trans h.os, k.tape.trans h.tape, k.output.trans h.output, Nat.le_trans h.size k.size, fun i hi h1 h2 => (k.block i hi h1 h2).trans (h.block i hi h1 h2)⟩
theorem BelowD.of {x y N n : Nat} {a b : World} (h : Below n a b) (hn : N ≤ n) : BelowD x y N a b :=
  ⟨h.os, h.tape, h.output, h.size, fun i hi _ _ => h.block i (Nat.lt_of_lt_of_le hi hn)⟩
theorem BelowD.set {x y N : Nat} {a b : World} (h : BelowD x y N a b) (k i : Nat) (v : Value) (hk : k = x ∨ k = y ∨ N ≤ k) : BelowD x y N a (b.setCell ⟨k, i, none⟩ v) := by
  have e : ∀ j, j ≠ k → (b.setCell ⟨k, i, none⟩ v).heap[j]? = b.heap[j]? := fun j hj => Below.heap_setCell _ _ _ _ (by exact hj)
  exact ⟨h.os, h.tape, h.output, by rw [World.size_setCell]; exact h.size, fun j hj h1 h2 => (e j (by rcases hk with rfl | rfl | hk; exact h1; exact h2; omega)).trans (h.block j hj h1 h2)⟩
theorem BelowD.cell {x y N : Nat} {w w' : World} (h : BelowD x y N w w') {b i : Nat} (hb : b < N) (h1 : b ≠ x) (h2 : b ≠ y) : w'.cell? ⟨b, i, none⟩ = w.cell? ⟨b, i, none⟩ :=
  World.cell?_of_block (a := ⟨b, i, none⟩) (h.block b hb h1 h2)
theorem BelowD.frozen {x y N : Nat} {w w' : World} (h : BelowD x y N w w') {b i : Nat} (hb : b < N) (h1 : b ≠ x) (h2 : b ≠ y) : w'.frozen? ⟨b, i, none⟩ = w.frozen? ⟨b, i, none⟩ :=
  World.frozen?_of_block (a := ⟨b, i, none⟩) (h.block b hb h1 h2)
end Go.Proofs.Ytjkhjjmmkdfjmaa
