/- The two fills of the example happen: (room).add. -/
import Derived.Test.YtjkhjjmmkdfjmaaFRoom2
import Derived.Outline
namespace Go.Proofs.Ytjkhjjmmkdfjmaa
open Go.ChangeShapes Go.WideShapes Go.ChangeAt Go.RowKit
set_option linter.unusedVariables false
set_option linter.unusedSimpArgs false
attribute [local go_sem ↓] Go.wp_at_zero Go.wp_at_succ
/-- All blocks below N are as they were, but two. -/
structure BelowD (x y N : Nat) (w w' : World) : Prop where
  os : w'.os = w.os
  tape : w'.tape = w.tape
  output : w'.output = w.output
  size : w.heap.size ≤ w'.heap.size
  block : ∀ k, k < N → k ≠ x → k ≠ y → w'.heap[k]? = w.heap[k]?
theorem BelowD.trans {x y N : Nat} {a b c : World} (h : BelowD x y N a b) (k : BelowD x y N b c) : BelowD x y N a c :=
  ⟨k.os.trans h.os, k.tape.trans h.tape, k.output.trans h.output, Nat.le_trans h.size k.size, fun i hi h1 h2 => (k.block i hi h1 h2).trans (h.block i hi h1 h2)⟩
theorem BelowD.of {x y N n : Nat} {a b : World} (h : Below n a b) (hn : N ≤ n) : BelowD x y N a b :=
  ⟨h.os, h.tape, h.output, h.size, fun i hi _ _ => h.block i (Nat.lt_of_lt_of_le hi hn)⟩
theorem BelowD.set {x y N : Nat} {a b : World} (h : BelowD x y N a b) (k i : Nat) (v : Value) (hk : k = x ∨ k = y ∨ N ≤ k) : BelowD x y N a (b.setCell ⟨k, i, none⟩ v) := by
  have e : ∀ j, j ≠ k → (b.setCell ⟨k, i, none⟩ v).heap[j]? = b.heap[j]? := fun j hj => Below.heap_setCell _ _ _ _ (by exact hj)
  exact ⟨h.os, h.tape, h.output, by rw [World.size_setCell]; exact h.size, fun j hj h1 h2 => (e j (by rcases hk with rfl | rfl | hk; exact h1; exact h2; omega)).trans (h.block j hj h1 h2)⟩
theorem BelowD.cell {x y N : Nat} {w w' : World} (h : BelowD x y N w w') {b i : Nat} (hb : b < N) (h1 : b ≠ x) (h2 : b ≠ y) : w'.cell? ⟨b, i, none⟩ = w.cell? ⟨b, i, none⟩ :=
  World.cell?_of_block (a := ⟨b, i, none⟩) (h.block b hb h1 h2)
theorem BelowD.frozen {x y N : Nat} {w w' : World} (h : BelowD x y N w w') {b i : Nat} (hb : b < N) (h1 : b ≠ x) (h2 : b ≠ y) : w'.frozen? ⟨b, i, none⟩ = w.frozen? ⟨b, i, none⟩ :=
  World.frozen?_of_block (a := ⟨b, i, none⟩) (h.block b hb h1 h2)
/-- The room behind the fill 1. -/
def Room1 (rb vb cap : Nat) (w' : World) : Prop := w'.cell? ⟨vb, 0, none⟩ = some (.string ⟨#[98, 97, 110, 107]⟩) ∧ w'.cell? ⟨vb, 1, none⟩ = some (.int .i64 50000) ∧ w'.cell? ⟨vb, 2, none⟩ = some (.int .i64 300000) ∧ w'.cell? ⟨vb, 3, none⟩ = some (.int .i64 2100000) ∧ w'.cell? ⟨vb, 4, none⟩ = some (.int .i64 0) ∧ w'.cell? ⟨vb, 5, none⟩ = some (.int .i64 7900000) ∧ w'.cell? ⟨vb, 6, none⟩ = some (.string ⟨#[115, 49, 50]⟩) ∧ w'.cell? ⟨vb, 7, none⟩ = some (.int .i64 12000) ∧ w'.cell? ⟨vb, 8, none⟩ = some (.int .i64 232000) ∧ w'.cell? ⟨vb, 9, none⟩ = some (.int .i64 0) ∧ w'.cell? ⟨vb, 10, none⟩ = some (.int .i64 0) ∧ w'.cell? ⟨vb, 11, none⟩ = some (.int .i64 0) ∧ w'.cell? ⟨rb, 0, none⟩ = some (.slice (some ⟨vb, 0, none⟩) 2 cap) ∧ w'.cell? ⟨rb, 1, none⟩ = some (.int .i64 2100000) ∧ w'.cell? ⟨rb, 2, none⟩ = some (.int .i64 0) ∧ w'.cell? ⟨rb, 3, none⟩ = some (.int .i64 7900000) ∧ w'.cell? ⟨rb, 4, none⟩ = some (.int .i64 0) ∧ w'.cell? ⟨rb, 5, none⟩ = some (.int .i64 0) ∧ w'.cell? ⟨rb, 6, none⟩ = some (.int .i64 0) ∧ w'.cell? ⟨rb, 7, none⟩ = some (.int .i64 1) ∧ (∀ j, w'.frozen? ⟨vb, j, none⟩ = false) ∧ (∀ j, w'.frozen? ⟨rb, j, none⟩ = false)
def Add1 (rb vb cap : Nat) (w : World) (e : Ending) (w' : World) : Prop := e = .returned (.int .i64 0) ∧ Room1 rb vb cap w' ∧ BelowD rb vb w.heap.size w w'
set_option maxHeartbeats 8000000 in
set_option maxRecDepth 100000 in
theorem add_1 (rb vb cap : Nat) (w : World) (v0 : w.cell? ⟨vb, 0, none⟩ = some (.string ⟨#[98, 97, 110, 107]⟩)) (v1 : w.cell? ⟨vb, 1, none⟩ = some (.int .i64 50000)) (v2 : w.cell? ⟨vb, 2, none⟩ = some (.int .i64 300000)) (v3 : w.cell? ⟨vb, 3, none⟩ = some (.int .i64 0)) (v4 : w.cell? ⟨vb, 4, none⟩ = some (.int .i64 0)) (v5 : w.cell? ⟨vb, 5, none⟩ = some (.int .i64 0)) (v6 : w.cell? ⟨vb, 6, none⟩ = some (.string ⟨#[115, 49, 50]⟩)) (v7 : w.cell? ⟨vb, 7, none⟩ = some (.int .i64 12000)) (v8 : w.cell? ⟨vb, 8, none⟩ = some (.int .i64 232000)) (v9 : w.cell? ⟨vb, 9, none⟩ = some (.int .i64 0)) (v10 : w.cell? ⟨vb, 10, none⟩ = some (.int .i64 0)) (v11 : w.cell? ⟨vb, 11, none⟩ = some (.int .i64 0)) (r0 : w.cell? ⟨rb, 0, none⟩ = some (.slice (some ⟨vb, 0, none⟩) 2 cap)) (r1 : w.cell? ⟨rb, 1, none⟩ = some (.int .i64 0)) (r2 : w.cell? ⟨rb, 2, none⟩ = some (.int .i64 0)) (r3 : w.cell? ⟨rb, 3, none⟩ = some (.int .i64 0)) (r4 : w.cell? ⟨rb, 4, none⟩ = some (.int .i64 0)) (r5 : w.cell? ⟨rb, 5, none⟩ = some (.int .i64 0)) (r6 : w.cell? ⟨rb, 6, none⟩ = some (.int .i64 0)) (r7 : w.cell? ⟨rb, 7, none⟩ = some (.int .i64 0)) (vf : ∀ j, w.frozen? ⟨vb, j, none⟩ = false) (rf : ∀ j, w.frozen? ⟨rb, j, none⟩ = false) (lv : vb < w.heap.size) (lr : rb < w.heap.size) (nrv : rb ≠ vb) : Calls Try.prog 65 #[.pointer (some ⟨rb, 0, none⟩), .agg #[.int .i64 0, .int .i64 1, .string ⟨#[]⟩, .string ⟨#[98, 97, 110, 107]⟩, .int .i64 210, .int .i64 0, .int .i64 10000000, .bool false]] w (Add1 rb vb cap w) := by
  have o1 : vb ≠ w.heap.size := by omega
  have o2 : rb ≠ w.heap.size := by omega
  have o3 : vb < w.heap.size + 1 := by omega
  have o4 : rb < w.heap.size + 1 := by omega
  have nvr : vb ≠ rb := fun h => nrv h.symm
  go_enter Try.func65, Try.ntmps65
  go_wp2_with fail
  refine (checkAlone_1 _).mono ?_
  rintro e xw1 ⟨rfl, hbx1⟩
  have zx1 := hbx1.size
  try simp at zx1
  obtain ⟨x1_0_0, x1_0_1, x1_0_2, x1_0_3, x1_0_4, x1_0_5, x1_0_6, x1_0_7, x1_1_0, x1_1_1, x1_1_2, x1_1_3, x1_1_4, x1_1_5, x1_1_6, x1_1_7, x1_1_8, x1_1_9, x1_1_10, x1_1_11, x1_2_0, x1_2_1, x1_2_2, x1_2_3, x1_2_4, x1_2_5, x1_2_6, x1_2_7⟩ : xw1.cell? ⟨w.heap.size, 0, none⟩ = some (.int .i64 0) ∧ xw1.cell? ⟨w.heap.size, 1, none⟩ = some (.int .i64 1) ∧ xw1.cell? ⟨w.heap.size, 2, none⟩ = some (.string ⟨#[]⟩) ∧ xw1.cell? ⟨w.heap.size, 3, none⟩ = some (.string ⟨#[98, 97, 110, 107]⟩) ∧ xw1.cell? ⟨w.heap.size, 4, none⟩ = some (.int .i64 210) ∧ xw1.cell? ⟨w.heap.size, 5, none⟩ = some (.int .i64 0) ∧ xw1.cell? ⟨w.heap.size, 6, none⟩ = some (.int .i64 10000000) ∧ xw1.cell? ⟨w.heap.size, 7, none⟩ = some (.bool false) ∧ xw1.cell? ⟨vb, 0, none⟩ = some (.string ⟨#[98, 97, 110, 107]⟩) ∧ xw1.cell? ⟨vb, 1, none⟩ = some (.int .i64 50000) ∧ xw1.cell? ⟨vb, 2, none⟩ = some (.int .i64 300000) ∧ xw1.cell? ⟨vb, 3, none⟩ = some (.int .i64 0) ∧ xw1.cell? ⟨vb, 4, none⟩ = some (.int .i64 0) ∧ xw1.cell? ⟨vb, 5, none⟩ = some (.int .i64 0) ∧ xw1.cell? ⟨vb, 6, none⟩ = some (.string ⟨#[115, 49, 50]⟩) ∧ xw1.cell? ⟨vb, 7, none⟩ = some (.int .i64 12000) ∧ xw1.cell? ⟨vb, 8, none⟩ = some (.int .i64 232000) ∧ xw1.cell? ⟨vb, 9, none⟩ = some (.int .i64 0) ∧ xw1.cell? ⟨vb, 10, none⟩ = some (.int .i64 0) ∧ xw1.cell? ⟨vb, 11, none⟩ = some (.int .i64 0) ∧ xw1.cell? ⟨rb, 0, none⟩ = some (.slice (some ⟨vb, 0, none⟩) 2 cap) ∧ xw1.cell? ⟨rb, 1, none⟩ = some (.int .i64 0) ∧ xw1.cell? ⟨rb, 2, none⟩ = some (.int .i64 0) ∧ xw1.cell? ⟨rb, 3, none⟩ = some (.int .i64 0) ∧ xw1.cell? ⟨rb, 4, none⟩ = some (.int .i64 0) ∧ xw1.cell? ⟨rb, 5, none⟩ = some (.int .i64 0) ∧ xw1.cell? ⟨rb, 6, none⟩ = some (.int .i64 0) ∧ xw1.cell? ⟨rb, 7, none⟩ = some (.int .i64 0) := by refine ⟨?_, ?_, ?_, ?_, ?_, ?_, ?_, ?_, ?_, ?_, ?_, ?_, ?_, ?_, ?_, ?_, ?_, ?_, ?_, ?_, ?_, ?_, ?_, ?_, ?_, ?_, ?_, ?_⟩ <;> (rw [(bcell hbx1).1 _ _ (by first | (simp; done) | (simp; omega) | omega)]; simp [go_sem, World.cell?_alloc_past, *])
  obtain ⟨x1f1, x1f2⟩ : (∀ j, xw1.frozen? ⟨vb, j, none⟩ = false) ∧ (∀ j, xw1.frozen? ⟨rb, j, none⟩ = false) := by refine ⟨?_, ?_⟩ <;> (intro j; rw [(bcell hbx1).2 _ _ (by first | (simp; done) | (simp; omega) | omega)]; simp [go_sem, *])
  obtain ⟨x1o0, x1n0, x1t0_0, x1t0_1, x1o1, x1n1, x1t1_0, x1t1_1, x1o2, x1n2, x1t2_0, x1t2_1⟩ : w.heap.size < xw1.heap.size ∧ xw1.heap.size ≠ w.heap.size ∧ w.heap.size < xw1.heap.size + 1 ∧ w.heap.size < xw1.heap.size + 1 + 1 ∧ vb < xw1.heap.size ∧ xw1.heap.size ≠ vb ∧ vb < xw1.heap.size + 1 ∧ vb < xw1.heap.size + 1 + 1 ∧ rb < xw1.heap.size ∧ xw1.heap.size ≠ rb ∧ rb < xw1.heap.size + 1 ∧ rb < xw1.heap.size + 1 + 1 := by refine ⟨?_, ?_, ?_, ?_, ?_, ?_, ?_, ?_, ?_, ?_, ?_, ?_⟩ <;> omega
  have hBx1 : Below w.heap.size w xw1 := (by (repeat (first | (with_reducible refine Below.drew ?_) | (with_reducible refine below_drewN ?_ _) | (with_reducible refine Below.alloc ?_ (by first | omega | (simp; done) | (simp; omega) | (simp at *; omega)) _) | (with_reducible refine Below.setCell ?_ (by first | omega | (simp; done) | (simp; omega) | (simp at *; omega)) _) | (with_reducible exact Below.refl _ _) | (with_reducible assumption) | (with_reducible refine Below.trans ?_ (Below.mono (by assumption) (by first | omega | (simp; done) | (simp; omega) | (simp at *; omega)))))))
  clear hbx1 
  go_upto_region 4 with (fail)
  refine wp_region_held_drew (S := (fun w' => w'.cell? ⟨w.heap.size, 0, none⟩ = some (.int .i64 0) ∧ w'.cell? ⟨w.heap.size, 1, none⟩ = some (.int .i64 1) ∧ w'.cell? ⟨w.heap.size, 2, none⟩ = some (.string ⟨#[]⟩) ∧ w'.cell? ⟨w.heap.size, 3, none⟩ = some (.string ⟨#[98, 97, 110, 107]⟩) ∧ w'.cell? ⟨w.heap.size, 4, none⟩ = some (.int .i64 210) ∧ w'.cell? ⟨w.heap.size, 5, none⟩ = some (.int .i64 0) ∧ w'.cell? ⟨w.heap.size, 6, none⟩ = some (.int .i64 10000000) ∧ w'.cell? ⟨w.heap.size, 7, none⟩ = some (.bool false) ∧ w'.cell? ⟨rb, 0, none⟩ = some (.slice (some ⟨vb, 0, none⟩) 2 cap) ∧ w'.cell? ⟨rb, 1, none⟩ = some (.int .i64 0) ∧ w'.cell? ⟨rb, 2, none⟩ = some (.int .i64 0) ∧ w'.cell? ⟨rb, 3, none⟩ = some (.int .i64 0) ∧ w'.cell? ⟨rb, 4, none⟩ = some (.int .i64 0) ∧ w'.cell? ⟨rb, 5, none⟩ = some (.int .i64 0) ∧ w'.cell? ⟨rb, 6, none⟩ = some (.int .i64 0) ∧ w'.cell? ⟨rb, 7, none⟩ = some (.int .i64 0))) (by kernel_rfl) (by simp [go_sem, World.cell?_alloc_past, *]) (fun hHeld => ?_)
  refine tkH 0 ⟨some 15, _, _, _, _, _⟩ ?_ rfl ?_ (by assumption) ?_
  rotate_left
  · (intro w hSw; (try dsimp only at hSw); go_simp; all_goals with_reducible rfl)
  try simp only [Act.put, sA, sB, sC]
  refine tkH 1 ⟨some 16, _, _, _, _, _⟩ ?_ rfl ?_ (by assumption) ?_
  rotate_left
  · (intro w hSw; (try dsimp only at hSw); go_simp; all_goals with_reducible rfl)
  try simp only [Act.put, sA, sB, sC]
  refine tkH 2 ⟨some 17, _, _, _, _, _⟩ ?_ rfl ?_ (by assumption) ?_
  rotate_left
  · (intro w hSw; (try dsimp only at hSw); go_simp; all_goals with_reducible rfl)
  try simp only [Act.put, sA, sB, sC]
  refine tkH 3 ⟨some 18, _, _, _, _, _⟩ ?_ rfl ?_ (by assumption) ?_
  rotate_left
  · (intro w hSw; (try dsimp only at hSw); go_simp; all_goals with_reducible rfl)
  try simp only [Act.put, sA, sB, sC]
  refine tkH 4 ⟨some 19, _, _, _, _, _⟩ ?_ rfl ?_ (by assumption) ?_
  rotate_left
  · (intro w hSw; (try dsimp only at hSw); go_simp; all_goals with_reducible rfl)
  try simp only [Act.put, sA, sB, sC]
  refine tkH 6 ⟨some 21, _, _, _, _, _⟩ ?_ rfl ?_ (by assumption) ?_
  rotate_left
  · (intro w hSw; (try dsimp only at hSw); go_simp; all_goals with_reducible rfl)
  try simp only [Act.put, sA, sB, sC]
  refine tkH 7 ⟨some 22, _, _, _, _, _⟩ ?_ rfl ?_ (by assumption) ?_
  rotate_left
  · (intro w hSw; (try dsimp only at hSw); go_simp; all_goals with_reducible rfl)
  try simp only [Act.put, sA, sB, sC]
  refine tkH 8 ⟨some 23, _, _, _, _, _⟩ ?_ rfl ?_ (by assumption) ?_
  rotate_left
  · (intro w hSw; (try dsimp only at hSw); go_simp; all_goals with_reducible rfl)
  try simp only [Act.put, sA, sB, sC]
  refine tkH 9 ⟨some 24, _, _, _, _, _⟩ ?_ rfl ?_ (by assumption) ?_
  rotate_left
  · (intro w hSw; (try dsimp only at hSw); go_simp; all_goals with_reducible rfl)
  try simp only [Act.put, sA, sB, sC]
  refine tkH 10 ⟨some 25, _, _, _, _, _⟩ ?_ rfl ?_ (by assumption) ?_
  rotate_left
  · (intro w hSw; (try dsimp only at hSw); go_simp; all_goals with_reducible rfl)
  try simp only [Act.put, sA, sB, sC]
  refine wpAnyH_ready (rs := [5]) (by kernel_rfl) (by simp) ?_
  refine AllReadyH.cons rfl (fun K hK => ?_) AllReadyH.nil
  go_simp
  refine (vessel_n 0 0 0 0 0 0 0 0 0 0 0 0 0 vb cap _ (by simp [go_sem, *]) (by simp [go_sem, *]) (by simp [go_sem, *]) (by simp [go_sem, *]) (by simp [go_sem, *]) (by simp [go_sem, *]) (by simp [go_sem, *]) (by simp [go_sem, *]) (by simp [go_sem, *]) (by simp [go_sem, *]) (by simp [go_sem, *]) (by simp [go_sem, *]) (by first | omega | (simp; omega))).mono ?_
  rintro e xw2 ⟨rfl, hbx2⟩
  have zx2 := hbx2.size
  try simp at zx2
  obtain ⟨x2_0_0, x2_0_1, x2_0_2, x2_0_3, x2_0_4, x2_0_5, x2_0_6, x2_0_7, x2_1_0, x2_1_1, x2_1_2, x2_1_3, x2_1_4, x2_1_5, x2_1_6, x2_1_7, x2_1_8, x2_1_9, x2_1_10, x2_1_11, x2_2_0, x2_2_1, x2_2_2, x2_2_3, x2_2_4, x2_2_5, x2_2_6, x2_2_7⟩ : xw2.cell? ⟨w.heap.size, 0, none⟩ = some (.int .i64 0) ∧ xw2.cell? ⟨w.heap.size, 1, none⟩ = some (.int .i64 1) ∧ xw2.cell? ⟨w.heap.size, 2, none⟩ = some (.string ⟨#[]⟩) ∧ xw2.cell? ⟨w.heap.size, 3, none⟩ = some (.string ⟨#[98, 97, 110, 107]⟩) ∧ xw2.cell? ⟨w.heap.size, 4, none⟩ = some (.int .i64 210) ∧ xw2.cell? ⟨w.heap.size, 5, none⟩ = some (.int .i64 0) ∧ xw2.cell? ⟨w.heap.size, 6, none⟩ = some (.int .i64 10000000) ∧ xw2.cell? ⟨w.heap.size, 7, none⟩ = some (.bool false) ∧ xw2.cell? ⟨vb, 0, none⟩ = some (.string ⟨#[98, 97, 110, 107]⟩) ∧ xw2.cell? ⟨vb, 1, none⟩ = some (.int .i64 50000) ∧ xw2.cell? ⟨vb, 2, none⟩ = some (.int .i64 300000) ∧ xw2.cell? ⟨vb, 3, none⟩ = some (.int .i64 0) ∧ xw2.cell? ⟨vb, 4, none⟩ = some (.int .i64 0) ∧ xw2.cell? ⟨vb, 5, none⟩ = some (.int .i64 0) ∧ xw2.cell? ⟨vb, 6, none⟩ = some (.string ⟨#[115, 49, 50]⟩) ∧ xw2.cell? ⟨vb, 7, none⟩ = some (.int .i64 12000) ∧ xw2.cell? ⟨vb, 8, none⟩ = some (.int .i64 232000) ∧ xw2.cell? ⟨vb, 9, none⟩ = some (.int .i64 0) ∧ xw2.cell? ⟨vb, 10, none⟩ = some (.int .i64 0) ∧ xw2.cell? ⟨vb, 11, none⟩ = some (.int .i64 0) ∧ xw2.cell? ⟨rb, 0, none⟩ = some (.slice (some ⟨vb, 0, none⟩) 2 cap) ∧ xw2.cell? ⟨rb, 1, none⟩ = some (.int .i64 0) ∧ xw2.cell? ⟨rb, 2, none⟩ = some (.int .i64 0) ∧ xw2.cell? ⟨rb, 3, none⟩ = some (.int .i64 0) ∧ xw2.cell? ⟨rb, 4, none⟩ = some (.int .i64 0) ∧ xw2.cell? ⟨rb, 5, none⟩ = some (.int .i64 0) ∧ xw2.cell? ⟨rb, 6, none⟩ = some (.int .i64 0) ∧ xw2.cell? ⟨rb, 7, none⟩ = some (.int .i64 0) := by refine ⟨?_, ?_, ?_, ?_, ?_, ?_, ?_, ?_, ?_, ?_, ?_, ?_, ?_, ?_, ?_, ?_, ?_, ?_, ?_, ?_, ?_, ?_, ?_, ?_, ?_, ?_, ?_, ?_⟩ <;> (rw [(bcell hbx2).1 _ _ (by first | (simp; done) | (simp; omega) | omega)]; simp [go_sem, World.cell?_alloc_past, *])
  obtain ⟨x2f1, x2f2⟩ : (∀ j, xw2.frozen? ⟨vb, j, none⟩ = false) ∧ (∀ j, xw2.frozen? ⟨rb, j, none⟩ = false) := by refine ⟨?_, ?_⟩ <;> (intro j; rw [(bcell hbx2).2 _ _ (by first | (simp; done) | (simp; omega) | omega)]; simp [go_sem, *])
  obtain ⟨x2o0, x2n0, x2t0_0, x2t0_1, x2o1, x2n1, x2t1_0, x2t1_1, x2o2, x2n2, x2t2_0, x2t2_1⟩ : w.heap.size < xw2.heap.size ∧ xw2.heap.size ≠ w.heap.size ∧ w.heap.size < xw2.heap.size + 1 ∧ w.heap.size < xw2.heap.size + 1 + 1 ∧ vb < xw2.heap.size ∧ xw2.heap.size ≠ vb ∧ vb < xw2.heap.size + 1 ∧ vb < xw2.heap.size + 1 + 1 ∧ rb < xw2.heap.size ∧ xw2.heap.size ≠ rb ∧ rb < xw2.heap.size + 1 ∧ rb < xw2.heap.size + 1 + 1 := by refine ⟨?_, ?_, ?_, ?_, ?_, ?_, ?_, ?_, ?_, ?_, ?_, ?_⟩ <;> omega
  have hBx2 : Below w.heap.size w xw2 := (by (repeat (first | (with_reducible refine Below.drew ?_) | (with_reducible refine below_drewN ?_ _) | (with_reducible refine Below.alloc ?_ (by first | omega | (simp; done) | (simp; omega) | (simp at *; omega)) _) | (with_reducible refine Below.setCell ?_ (by first | omega | (simp; done) | (simp; omega) | (simp at *; omega)) _) | (with_reducible exact Below.refl _ _) | (with_reducible assumption) | (with_reducible refine Below.trans ?_ (Below.mono (by assumption) (by first | omega | (simp; done) | (simp; omega) | (simp at *; omega)))))))
  clear hbx2 x1_0_0 x1_0_1 x1_0_2 x1_0_3 x1_0_4 x1_0_5 x1_0_6 x1_0_7 x1_1_0 x1_1_1 x1_1_2 x1_1_3 x1_1_4 x1_1_5 x1_1_6 x1_1_7 x1_1_8 x1_1_9 x1_1_10 x1_1_11 x1_2_0 x1_2_1 x1_2_2 x1_2_3 x1_2_4 x1_2_5 x1_2_6 x1_2_7 x1f1 x1f2 x1o0 x1n0 x1t0_0 x1t0_1 x1o1 x1n1 x1t1_0 x1t1_1 x1o2 x1n2 x1t2_0 x1t2_1 hBx1
  go_wp2_with fail
  refine hK.out _ _ (by simp [go_sem, World.cell?_alloc_past, *]) (fun hHeld => ?_)
  clear hK K
  try simp only [Act.put, sA, sB, sC]
  refine wpAnyH_ready (rs := [11]) (by kernel_rfl) (by simp) ?_
  refine AllReadyH.cons rfl (fun K hK => ?_) AllReadyH.nil
  go_simp
  refine (vessel_b 0 0 0 0 0 0 0 0 0 0 0 0 0 vb cap _ (by simp [go_sem, *]) (by simp [go_sem, *]) (by simp [go_sem, *]) (by simp [go_sem, *]) (by simp [go_sem, *]) (by simp [go_sem, *]) (by simp [go_sem, *]) (by simp [go_sem, *]) (by simp [go_sem, *]) (by simp [go_sem, *]) (by simp [go_sem, *]) (by simp [go_sem, *]) (by first | omega | (simp; omega))).mono ?_
  rintro e xw3 ⟨rfl, hbx3⟩
  have zx3 := hbx3.size
  try simp at zx3
  obtain ⟨x3_0_0, x3_0_1, x3_0_2, x3_0_3, x3_0_4, x3_0_5, x3_0_6, x3_0_7, x3_1_0, x3_1_1, x3_1_2, x3_1_3, x3_1_4, x3_1_5, x3_1_6, x3_1_7, x3_1_8, x3_1_9, x3_1_10, x3_1_11, x3_2_0, x3_2_1, x3_2_2, x3_2_3, x3_2_4, x3_2_5, x3_2_6, x3_2_7⟩ : xw3.cell? ⟨w.heap.size, 0, none⟩ = some (.int .i64 0) ∧ xw3.cell? ⟨w.heap.size, 1, none⟩ = some (.int .i64 1) ∧ xw3.cell? ⟨w.heap.size, 2, none⟩ = some (.string ⟨#[]⟩) ∧ xw3.cell? ⟨w.heap.size, 3, none⟩ = some (.string ⟨#[98, 97, 110, 107]⟩) ∧ xw3.cell? ⟨w.heap.size, 4, none⟩ = some (.int .i64 210) ∧ xw3.cell? ⟨w.heap.size, 5, none⟩ = some (.int .i64 0) ∧ xw3.cell? ⟨w.heap.size, 6, none⟩ = some (.int .i64 10000000) ∧ xw3.cell? ⟨w.heap.size, 7, none⟩ = some (.bool false) ∧ xw3.cell? ⟨vb, 0, none⟩ = some (.string ⟨#[98, 97, 110, 107]⟩) ∧ xw3.cell? ⟨vb, 1, none⟩ = some (.int .i64 50000) ∧ xw3.cell? ⟨vb, 2, none⟩ = some (.int .i64 300000) ∧ xw3.cell? ⟨vb, 3, none⟩ = some (.int .i64 0) ∧ xw3.cell? ⟨vb, 4, none⟩ = some (.int .i64 0) ∧ xw3.cell? ⟨vb, 5, none⟩ = some (.int .i64 0) ∧ xw3.cell? ⟨vb, 6, none⟩ = some (.string ⟨#[115, 49, 50]⟩) ∧ xw3.cell? ⟨vb, 7, none⟩ = some (.int .i64 12000) ∧ xw3.cell? ⟨vb, 8, none⟩ = some (.int .i64 232000) ∧ xw3.cell? ⟨vb, 9, none⟩ = some (.int .i64 0) ∧ xw3.cell? ⟨vb, 10, none⟩ = some (.int .i64 0) ∧ xw3.cell? ⟨vb, 11, none⟩ = some (.int .i64 0) ∧ xw3.cell? ⟨rb, 0, none⟩ = some (.slice (some ⟨vb, 0, none⟩) 2 cap) ∧ xw3.cell? ⟨rb, 1, none⟩ = some (.int .i64 0) ∧ xw3.cell? ⟨rb, 2, none⟩ = some (.int .i64 0) ∧ xw3.cell? ⟨rb, 3, none⟩ = some (.int .i64 0) ∧ xw3.cell? ⟨rb, 4, none⟩ = some (.int .i64 0) ∧ xw3.cell? ⟨rb, 5, none⟩ = some (.int .i64 0) ∧ xw3.cell? ⟨rb, 6, none⟩ = some (.int .i64 0) ∧ xw3.cell? ⟨rb, 7, none⟩ = some (.int .i64 0) := by refine ⟨?_, ?_, ?_, ?_, ?_, ?_, ?_, ?_, ?_, ?_, ?_, ?_, ?_, ?_, ?_, ?_, ?_, ?_, ?_, ?_, ?_, ?_, ?_, ?_, ?_, ?_, ?_, ?_⟩ <;> (rw [(bcell hbx3).1 _ _ (by first | (simp; done) | (simp; omega) | omega)]; simp [go_sem, World.cell?_alloc_past, *])
  obtain ⟨x3f1, x3f2⟩ : (∀ j, xw3.frozen? ⟨vb, j, none⟩ = false) ∧ (∀ j, xw3.frozen? ⟨rb, j, none⟩ = false) := by refine ⟨?_, ?_⟩ <;> (intro j; rw [(bcell hbx3).2 _ _ (by first | (simp; done) | (simp; omega) | omega)]; simp [go_sem, *])
  obtain ⟨x3o0, x3n0, x3t0_0, x3t0_1, x3o1, x3n1, x3t1_0, x3t1_1, x3o2, x3n2, x3t2_0, x3t2_1⟩ : w.heap.size < xw3.heap.size ∧ xw3.heap.size ≠ w.heap.size ∧ w.heap.size < xw3.heap.size + 1 ∧ w.heap.size < xw3.heap.size + 1 + 1 ∧ vb < xw3.heap.size ∧ xw3.heap.size ≠ vb ∧ vb < xw3.heap.size + 1 ∧ vb < xw3.heap.size + 1 + 1 ∧ rb < xw3.heap.size ∧ xw3.heap.size ≠ rb ∧ rb < xw3.heap.size + 1 ∧ rb < xw3.heap.size + 1 + 1 := by refine ⟨?_, ?_, ?_, ?_, ?_, ?_, ?_, ?_, ?_, ?_, ?_, ?_⟩ <;> omega
  have hBx3 : Below w.heap.size w xw3 := (by (repeat (first | (with_reducible refine Below.drew ?_) | (with_reducible refine below_drewN ?_ _) | (with_reducible refine Below.alloc ?_ (by first | omega | (simp; done) | (simp; omega) | (simp at *; omega)) _) | (with_reducible refine Below.setCell ?_ (by first | omega | (simp; done) | (simp; omega) | (simp at *; omega)) _) | (with_reducible exact Below.refl _ _) | (with_reducible assumption) | (with_reducible refine Below.trans ?_ (Below.mono (by assumption) (by first | omega | (simp; done) | (simp; omega) | (simp at *; omega)))))))
  clear hbx3 x2_0_0 x2_0_1 x2_0_2 x2_0_3 x2_0_4 x2_0_5 x2_0_6 x2_0_7 x2_1_0 x2_1_1 x2_1_2 x2_1_3 x2_1_4 x2_1_5 x2_1_6 x2_1_7 x2_1_8 x2_1_9 x2_1_10 x2_1_11 x2_2_0 x2_2_1 x2_2_2 x2_2_3 x2_2_4 x2_2_5 x2_2_6 x2_2_7 x2f1 x2f2 x2o0 x2n0 x2t0_0 x2t0_1 x2o1 x2n1 x2t1_0 x2t1_1 x2o2 x2n2 x2t2_0 x2t2_1 hBx2
  go_wp2_with fail
  refine hK.out _ _ (by simp [go_sem, World.cell?_alloc_past, *]) (fun hHeld => ?_)
  clear hK K
  try simp only [Act.put, sA, sB, sC]
  refine tkH 12 ⟨some 6, _, _, _, _, _⟩ ?_ rfl ?_ (by assumption) ?_
  rotate_left
  · (intro w hSw; (try dsimp only at hSw); go_simp; all_goals with_reducible rfl)
  try simp only [Act.put, sA, sB, sC]
  refine tkH 13 ⟨some 7, _, _, _, _, _⟩ ?_ rfl ?_ (by assumption) ?_
  rotate_left
  · (intro w hSw; (try dsimp only at hSw); go_simp; all_goals with_reducible rfl)
  try simp only [Act.put, sA, sB, sC]
  refine wpAnyH_done (by kernel_rfl) ?_ _
  go_wp2_with fail
  refine (checkPossible_1 rb vb cap _ (by simp [go_sem, *]) (by simp [go_sem, *]) (by simp [go_sem, *]) (by simp [go_sem, *]) (by simp [go_sem, *]) (by simp [go_sem, *]) (by simp [go_sem, *]) (by simp [go_sem, *]) (by simp [go_sem, *]) (by simp [go_sem, *]) (by simp [go_sem, *]) (by simp [go_sem, *]) (by simp [go_sem, *]) (by simp [go_sem, *]) (by simp [go_sem, *]) (by simp [go_sem, *]) (by simp [go_sem, *]) (by simp [go_sem, *]) (by simp [go_sem, *]) (by simp [go_sem, *]) (by first | omega | (simp; omega)) (by first | omega | (simp; omega))).mono ?_
  rintro e xw4 ⟨rfl, hbx4⟩
  have zx4 := hbx4.size
  try simp at zx4
  obtain ⟨x4_0_0, x4_0_1, x4_0_2, x4_0_3, x4_0_4, x4_0_5, x4_0_6, x4_0_7, x4_1_0, x4_1_1, x4_1_2, x4_1_3, x4_1_4, x4_1_5, x4_1_6, x4_1_7, x4_1_8, x4_1_9, x4_1_10, x4_1_11, x4_2_0, x4_2_1, x4_2_2, x4_2_3, x4_2_4, x4_2_5, x4_2_6, x4_2_7⟩ : xw4.cell? ⟨w.heap.size, 0, none⟩ = some (.int .i64 0) ∧ xw4.cell? ⟨w.heap.size, 1, none⟩ = some (.int .i64 1) ∧ xw4.cell? ⟨w.heap.size, 2, none⟩ = some (.string ⟨#[]⟩) ∧ xw4.cell? ⟨w.heap.size, 3, none⟩ = some (.string ⟨#[98, 97, 110, 107]⟩) ∧ xw4.cell? ⟨w.heap.size, 4, none⟩ = some (.int .i64 210) ∧ xw4.cell? ⟨w.heap.size, 5, none⟩ = some (.int .i64 0) ∧ xw4.cell? ⟨w.heap.size, 6, none⟩ = some (.int .i64 10000000) ∧ xw4.cell? ⟨w.heap.size, 7, none⟩ = some (.bool false) ∧ xw4.cell? ⟨vb, 0, none⟩ = some (.string ⟨#[98, 97, 110, 107]⟩) ∧ xw4.cell? ⟨vb, 1, none⟩ = some (.int .i64 50000) ∧ xw4.cell? ⟨vb, 2, none⟩ = some (.int .i64 300000) ∧ xw4.cell? ⟨vb, 3, none⟩ = some (.int .i64 0) ∧ xw4.cell? ⟨vb, 4, none⟩ = some (.int .i64 0) ∧ xw4.cell? ⟨vb, 5, none⟩ = some (.int .i64 0) ∧ xw4.cell? ⟨vb, 6, none⟩ = some (.string ⟨#[115, 49, 50]⟩) ∧ xw4.cell? ⟨vb, 7, none⟩ = some (.int .i64 12000) ∧ xw4.cell? ⟨vb, 8, none⟩ = some (.int .i64 232000) ∧ xw4.cell? ⟨vb, 9, none⟩ = some (.int .i64 0) ∧ xw4.cell? ⟨vb, 10, none⟩ = some (.int .i64 0) ∧ xw4.cell? ⟨vb, 11, none⟩ = some (.int .i64 0) ∧ xw4.cell? ⟨rb, 0, none⟩ = some (.slice (some ⟨vb, 0, none⟩) 2 cap) ∧ xw4.cell? ⟨rb, 1, none⟩ = some (.int .i64 0) ∧ xw4.cell? ⟨rb, 2, none⟩ = some (.int .i64 0) ∧ xw4.cell? ⟨rb, 3, none⟩ = some (.int .i64 0) ∧ xw4.cell? ⟨rb, 4, none⟩ = some (.int .i64 0) ∧ xw4.cell? ⟨rb, 5, none⟩ = some (.int .i64 0) ∧ xw4.cell? ⟨rb, 6, none⟩ = some (.int .i64 0) ∧ xw4.cell? ⟨rb, 7, none⟩ = some (.int .i64 0) := by refine ⟨?_, ?_, ?_, ?_, ?_, ?_, ?_, ?_, ?_, ?_, ?_, ?_, ?_, ?_, ?_, ?_, ?_, ?_, ?_, ?_, ?_, ?_, ?_, ?_, ?_, ?_, ?_, ?_⟩ <;> (rw [(bcell hbx4).1 _ _ (by first | (simp; done) | (simp; omega) | omega)]; simp [go_sem, World.cell?_alloc_past, *])
  obtain ⟨x4f1, x4f2⟩ : (∀ j, xw4.frozen? ⟨vb, j, none⟩ = false) ∧ (∀ j, xw4.frozen? ⟨rb, j, none⟩ = false) := by refine ⟨?_, ?_⟩ <;> (intro j; rw [(bcell hbx4).2 _ _ (by first | (simp; done) | (simp; omega) | omega)]; simp [go_sem, *])
  obtain ⟨x4o0, x4n0, x4t0_0, x4t0_1, x4o1, x4n1, x4t1_0, x4t1_1, x4o2, x4n2, x4t2_0, x4t2_1⟩ : w.heap.size < xw4.heap.size ∧ xw4.heap.size ≠ w.heap.size ∧ w.heap.size < xw4.heap.size + 1 ∧ w.heap.size < xw4.heap.size + 1 + 1 ∧ vb < xw4.heap.size ∧ xw4.heap.size ≠ vb ∧ vb < xw4.heap.size + 1 ∧ vb < xw4.heap.size + 1 + 1 ∧ rb < xw4.heap.size ∧ xw4.heap.size ≠ rb ∧ rb < xw4.heap.size + 1 ∧ rb < xw4.heap.size + 1 + 1 := by refine ⟨?_, ?_, ?_, ?_, ?_, ?_, ?_, ?_, ?_, ?_, ?_, ?_⟩ <;> omega
  have hBx4 : Below w.heap.size w xw4 := (by (repeat (first | (with_reducible refine Below.drew ?_) | (with_reducible refine below_drewN ?_ _) | (with_reducible refine Below.alloc ?_ (by first | omega | (simp; done) | (simp; omega) | (simp at *; omega)) _) | (with_reducible refine Below.setCell ?_ (by first | omega | (simp; done) | (simp; omega) | (simp at *; omega)) _) | (with_reducible exact Below.refl _ _) | (with_reducible assumption) | (with_reducible refine Below.trans ?_ (Below.mono (by assumption) (by first | omega | (simp; done) | (simp; omega) | (simp at *; omega)))))))
  clear hbx4 x3_0_0 x3_0_1 x3_0_2 x3_0_3 x3_0_4 x3_0_5 x3_0_6 x3_0_7 x3_1_0 x3_1_1 x3_1_2 x3_1_3 x3_1_4 x3_1_5 x3_1_6 x3_1_7 x3_1_8 x3_1_9 x3_1_10 x3_1_11 x3_2_0 x3_2_1 x3_2_2 x3_2_3 x3_2_4 x3_2_5 x3_2_6 x3_2_7 x3f1 x3f2 x3o0 x3n0 x3t0_0 x3t0_1 x3o1 x3n1 x3t1_0 x3t1_1 x3o2 x3n2 x3t2_0 x3t2_1 hBx3
  go_wp2_with fail
  refine (broughtIn_1 _).mono ?_
  rintro e xw5 ⟨rfl, hbx5⟩
  have zx5 := hbx5.size
  try simp at zx5
  obtain ⟨x5_0_0, x5_0_1, x5_0_2, x5_0_3, x5_0_4, x5_0_5, x5_0_6, x5_0_7, x5_1_0, x5_1_1, x5_1_2, x5_1_3, x5_1_4, x5_1_5, x5_1_6, x5_1_7, x5_1_8, x5_1_9, x5_1_10, x5_1_11, x5_2_0, x5_2_1, x5_2_2, x5_2_3, x5_2_4, x5_2_5, x5_2_6, x5_2_7⟩ : xw5.cell? ⟨w.heap.size, 0, none⟩ = some (.int .i64 0) ∧ xw5.cell? ⟨w.heap.size, 1, none⟩ = some (.int .i64 1) ∧ xw5.cell? ⟨w.heap.size, 2, none⟩ = some (.string ⟨#[]⟩) ∧ xw5.cell? ⟨w.heap.size, 3, none⟩ = some (.string ⟨#[98, 97, 110, 107]⟩) ∧ xw5.cell? ⟨w.heap.size, 4, none⟩ = some (.int .i64 210) ∧ xw5.cell? ⟨w.heap.size, 5, none⟩ = some (.int .i64 0) ∧ xw5.cell? ⟨w.heap.size, 6, none⟩ = some (.int .i64 10000000) ∧ xw5.cell? ⟨w.heap.size, 7, none⟩ = some (.bool false) ∧ xw5.cell? ⟨vb, 0, none⟩ = some (.string ⟨#[98, 97, 110, 107]⟩) ∧ xw5.cell? ⟨vb, 1, none⟩ = some (.int .i64 50000) ∧ xw5.cell? ⟨vb, 2, none⟩ = some (.int .i64 300000) ∧ xw5.cell? ⟨vb, 3, none⟩ = some (.int .i64 0) ∧ xw5.cell? ⟨vb, 4, none⟩ = some (.int .i64 0) ∧ xw5.cell? ⟨vb, 5, none⟩ = some (.int .i64 0) ∧ xw5.cell? ⟨vb, 6, none⟩ = some (.string ⟨#[115, 49, 50]⟩) ∧ xw5.cell? ⟨vb, 7, none⟩ = some (.int .i64 12000) ∧ xw5.cell? ⟨vb, 8, none⟩ = some (.int .i64 232000) ∧ xw5.cell? ⟨vb, 9, none⟩ = some (.int .i64 0) ∧ xw5.cell? ⟨vb, 10, none⟩ = some (.int .i64 0) ∧ xw5.cell? ⟨vb, 11, none⟩ = some (.int .i64 0) ∧ xw5.cell? ⟨rb, 0, none⟩ = some (.slice (some ⟨vb, 0, none⟩) 2 cap) ∧ xw5.cell? ⟨rb, 1, none⟩ = some (.int .i64 0) ∧ xw5.cell? ⟨rb, 2, none⟩ = some (.int .i64 0) ∧ xw5.cell? ⟨rb, 3, none⟩ = some (.int .i64 0) ∧ xw5.cell? ⟨rb, 4, none⟩ = some (.int .i64 0) ∧ xw5.cell? ⟨rb, 5, none⟩ = some (.int .i64 0) ∧ xw5.cell? ⟨rb, 6, none⟩ = some (.int .i64 0) ∧ xw5.cell? ⟨rb, 7, none⟩ = some (.int .i64 0) := by refine ⟨?_, ?_, ?_, ?_, ?_, ?_, ?_, ?_, ?_, ?_, ?_, ?_, ?_, ?_, ?_, ?_, ?_, ?_, ?_, ?_, ?_, ?_, ?_, ?_, ?_, ?_, ?_, ?_⟩ <;> (rw [(bcell hbx5).1 _ _ (by first | (simp; done) | (simp; omega) | omega)]; simp [go_sem, World.cell?_alloc_past, *])
  obtain ⟨x5f1, x5f2⟩ : (∀ j, xw5.frozen? ⟨vb, j, none⟩ = false) ∧ (∀ j, xw5.frozen? ⟨rb, j, none⟩ = false) := by refine ⟨?_, ?_⟩ <;> (intro j; rw [(bcell hbx5).2 _ _ (by first | (simp; done) | (simp; omega) | omega)]; simp [go_sem, *])
  obtain ⟨x5o0, x5n0, x5t0_0, x5t0_1, x5o1, x5n1, x5t1_0, x5t1_1, x5o2, x5n2, x5t2_0, x5t2_1⟩ : w.heap.size < xw5.heap.size ∧ xw5.heap.size ≠ w.heap.size ∧ w.heap.size < xw5.heap.size + 1 ∧ w.heap.size < xw5.heap.size + 1 + 1 ∧ vb < xw5.heap.size ∧ xw5.heap.size ≠ vb ∧ vb < xw5.heap.size + 1 ∧ vb < xw5.heap.size + 1 + 1 ∧ rb < xw5.heap.size ∧ xw5.heap.size ≠ rb ∧ rb < xw5.heap.size + 1 ∧ rb < xw5.heap.size + 1 + 1 := by refine ⟨?_, ?_, ?_, ?_, ?_, ?_, ?_, ?_, ?_, ?_, ?_, ?_⟩ <;> omega
  have hBx5 : Below w.heap.size w xw5 := (by (repeat (first | (with_reducible refine Below.drew ?_) | (with_reducible refine below_drewN ?_ _) | (with_reducible refine Below.alloc ?_ (by first | omega | (simp; done) | (simp; omega) | (simp at *; omega)) _) | (with_reducible refine Below.setCell ?_ (by first | omega | (simp; done) | (simp; omega) | (simp at *; omega)) _) | (with_reducible exact Below.refl _ _) | (with_reducible assumption) | (with_reducible refine Below.trans ?_ (Below.mono (by assumption) (by first | omega | (simp; done) | (simp; omega) | (simp at *; omega)))))))
  clear hbx5 x4_0_0 x4_0_1 x4_0_2 x4_0_3 x4_0_4 x4_0_5 x4_0_6 x4_0_7 x4_1_0 x4_1_1 x4_1_2 x4_1_3 x4_1_4 x4_1_5 x4_1_6 x4_1_7 x4_1_8 x4_1_9 x4_1_10 x4_1_11 x4_2_0 x4_2_1 x4_2_2 x4_2_3 x4_2_4 x4_2_5 x4_2_6 x4_2_7 x4f1 x4f2 x4o0 x4n0 x4t0_0 x4t0_1 x4o1 x4n1 x4t1_0 x4t1_1 x4o2 x4n2 x4t2_0 x4t2_1 hBx4
  go_upto_region 12 with (fail)
  have y0_0_0 : (xw5.alloc (.cells #[.int .i64 2100000, .int .i64 0, .int .i64 7900000] 49)).cell? ⟨w.heap.size, 0, none⟩ = some (.int .i64 0) := by simp [go_sem, World.cell?_alloc_past, *]
  have y0_0_1 : (xw5.alloc (.cells #[.int .i64 2100000, .int .i64 0, .int .i64 7900000] 49)).cell? ⟨w.heap.size, 1, none⟩ = some (.int .i64 1) := by simp [go_sem, World.cell?_alloc_past, *]
  have y0_0_2 : (xw5.alloc (.cells #[.int .i64 2100000, .int .i64 0, .int .i64 7900000] 49)).cell? ⟨w.heap.size, 2, none⟩ = some (.string ⟨#[]⟩) := by simp [go_sem, World.cell?_alloc_past, *]
  have y0_0_3 : (xw5.alloc (.cells #[.int .i64 2100000, .int .i64 0, .int .i64 7900000] 49)).cell? ⟨w.heap.size, 3, none⟩ = some (.string ⟨#[98, 97, 110, 107]⟩) := by simp [go_sem, World.cell?_alloc_past, *]
  have y0_0_4 : (xw5.alloc (.cells #[.int .i64 2100000, .int .i64 0, .int .i64 7900000] 49)).cell? ⟨w.heap.size, 4, none⟩ = some (.int .i64 210) := by simp [go_sem, World.cell?_alloc_past, *]
  have y0_0_5 : (xw5.alloc (.cells #[.int .i64 2100000, .int .i64 0, .int .i64 7900000] 49)).cell? ⟨w.heap.size, 5, none⟩ = some (.int .i64 0) := by simp [go_sem, World.cell?_alloc_past, *]
  have y0_0_6 : (xw5.alloc (.cells #[.int .i64 2100000, .int .i64 0, .int .i64 7900000] 49)).cell? ⟨w.heap.size, 6, none⟩ = some (.int .i64 10000000) := by simp [go_sem, World.cell?_alloc_past, *]
  have y0_0_7 : (xw5.alloc (.cells #[.int .i64 2100000, .int .i64 0, .int .i64 7900000] 49)).cell? ⟨w.heap.size, 7, none⟩ = some (.bool false) := by simp [go_sem, World.cell?_alloc_past, *]
  have y0_1_0 : (xw5.alloc (.cells #[.int .i64 2100000, .int .i64 0, .int .i64 7900000] 49)).cell? ⟨vb, 0, none⟩ = some (.string ⟨#[98, 97, 110, 107]⟩) := by simp [go_sem, World.cell?_alloc_past, *]
  have y0_1_1 : (xw5.alloc (.cells #[.int .i64 2100000, .int .i64 0, .int .i64 7900000] 49)).cell? ⟨vb, 1, none⟩ = some (.int .i64 50000) := by simp [go_sem, World.cell?_alloc_past, *]
  have y0_1_2 : (xw5.alloc (.cells #[.int .i64 2100000, .int .i64 0, .int .i64 7900000] 49)).cell? ⟨vb, 2, none⟩ = some (.int .i64 300000) := by simp [go_sem, World.cell?_alloc_past, *]
  have y0_1_3 : (xw5.alloc (.cells #[.int .i64 2100000, .int .i64 0, .int .i64 7900000] 49)).cell? ⟨vb, 3, none⟩ = some (.int .i64 0) := by simp [go_sem, World.cell?_alloc_past, *]
  have y0_1_4 : (xw5.alloc (.cells #[.int .i64 2100000, .int .i64 0, .int .i64 7900000] 49)).cell? ⟨vb, 4, none⟩ = some (.int .i64 0) := by simp [go_sem, World.cell?_alloc_past, *]
  have y0_1_5 : (xw5.alloc (.cells #[.int .i64 2100000, .int .i64 0, .int .i64 7900000] 49)).cell? ⟨vb, 5, none⟩ = some (.int .i64 0) := by simp [go_sem, World.cell?_alloc_past, *]
  have y0_1_6 : (xw5.alloc (.cells #[.int .i64 2100000, .int .i64 0, .int .i64 7900000] 49)).cell? ⟨vb, 6, none⟩ = some (.string ⟨#[115, 49, 50]⟩) := by simp [go_sem, World.cell?_alloc_past, *]
  have y0_1_7 : (xw5.alloc (.cells #[.int .i64 2100000, .int .i64 0, .int .i64 7900000] 49)).cell? ⟨vb, 7, none⟩ = some (.int .i64 12000) := by simp [go_sem, World.cell?_alloc_past, *]
  have y0_1_8 : (xw5.alloc (.cells #[.int .i64 2100000, .int .i64 0, .int .i64 7900000] 49)).cell? ⟨vb, 8, none⟩ = some (.int .i64 232000) := by simp [go_sem, World.cell?_alloc_past, *]
  have y0_1_9 : (xw5.alloc (.cells #[.int .i64 2100000, .int .i64 0, .int .i64 7900000] 49)).cell? ⟨vb, 9, none⟩ = some (.int .i64 0) := by simp [go_sem, World.cell?_alloc_past, *]
  have y0_1_10 : (xw5.alloc (.cells #[.int .i64 2100000, .int .i64 0, .int .i64 7900000] 49)).cell? ⟨vb, 10, none⟩ = some (.int .i64 0) := by simp [go_sem, World.cell?_alloc_past, *]
  have y0_1_11 : (xw5.alloc (.cells #[.int .i64 2100000, .int .i64 0, .int .i64 7900000] 49)).cell? ⟨vb, 11, none⟩ = some (.int .i64 0) := by simp [go_sem, World.cell?_alloc_past, *]
  have y0f1 : ∀ j, (xw5.alloc (.cells #[.int .i64 2100000, .int .i64 0, .int .i64 7900000] 49)).frozen? ⟨vb, j, none⟩ = false := fun j => by simp [go_sem, *]
  have y0_2_0 : (xw5.alloc (.cells #[.int .i64 2100000, .int .i64 0, .int .i64 7900000] 49)).cell? ⟨rb, 0, none⟩ = some (.slice (some ⟨vb, 0, none⟩) 2 cap) := by simp [go_sem, World.cell?_alloc_past, *]
  have y0_2_1 : (xw5.alloc (.cells #[.int .i64 2100000, .int .i64 0, .int .i64 7900000] 49)).cell? ⟨rb, 1, none⟩ = some (.int .i64 0) := by simp [go_sem, World.cell?_alloc_past, *]
  have y0_2_2 : (xw5.alloc (.cells #[.int .i64 2100000, .int .i64 0, .int .i64 7900000] 49)).cell? ⟨rb, 2, none⟩ = some (.int .i64 0) := by simp [go_sem, World.cell?_alloc_past, *]
  have y0_2_3 : (xw5.alloc (.cells #[.int .i64 2100000, .int .i64 0, .int .i64 7900000] 49)).cell? ⟨rb, 3, none⟩ = some (.int .i64 0) := by simp [go_sem, World.cell?_alloc_past, *]
  have y0_2_4 : (xw5.alloc (.cells #[.int .i64 2100000, .int .i64 0, .int .i64 7900000] 49)).cell? ⟨rb, 4, none⟩ = some (.int .i64 0) := by simp [go_sem, World.cell?_alloc_past, *]
  have y0_2_5 : (xw5.alloc (.cells #[.int .i64 2100000, .int .i64 0, .int .i64 7900000] 49)).cell? ⟨rb, 5, none⟩ = some (.int .i64 0) := by simp [go_sem, World.cell?_alloc_past, *]
  have y0_2_6 : (xw5.alloc (.cells #[.int .i64 2100000, .int .i64 0, .int .i64 7900000] 49)).cell? ⟨rb, 6, none⟩ = some (.int .i64 0) := by simp [go_sem, World.cell?_alloc_past, *]
  have y0_2_7 : (xw5.alloc (.cells #[.int .i64 2100000, .int .i64 0, .int .i64 7900000] 49)).cell? ⟨rb, 7, none⟩ = some (.int .i64 0) := by simp [go_sem, World.cell?_alloc_past, *]
  have y0f2 : ∀ j, (xw5.alloc (.cells #[.int .i64 2100000, .int .i64 0, .int .i64 7900000] 49)).frozen? ⟨rb, j, none⟩ = false := fun j => by simp [go_sem, *]
  have y0_3_0 : (xw5.alloc (.cells #[.int .i64 2100000, .int .i64 0, .int .i64 7900000] 49)).cell? ⟨xw5.heap.size, 0, none⟩ = some (.int .i64 2100000) := by simp [go_sem, World.cell?_alloc_past, *]
  have y0_3_1 : (xw5.alloc (.cells #[.int .i64 2100000, .int .i64 0, .int .i64 7900000] 49)).cell? ⟨xw5.heap.size, 1, none⟩ = some (.int .i64 0) := by simp [go_sem, World.cell?_alloc_past, *]
  have y0_3_2 : (xw5.alloc (.cells #[.int .i64 2100000, .int .i64 0, .int .i64 7900000] 49)).cell? ⟨xw5.heap.size, 2, none⟩ = some (.int .i64 7900000) := by simp [go_sem, World.cell?_alloc_past, *]
  have y0f3 : ∀ j, (xw5.alloc (.cells #[.int .i64 2100000, .int .i64 0, .int .i64 7900000] 49)).frozen? ⟨xw5.heap.size, j, none⟩ = false := fun j => by simp [go_sem, *]
  have hzy0 : (xw5.alloc (.cells #[.int .i64 2100000, .int .i64 0, .int .i64 7900000] 49)).heap.size = xw5.heap.size + 1 := by simp
  have hDy0 : BelowD rb vb w.heap.size w (xw5.alloc (.cells #[.int .i64 2100000, .int .i64 0, .int .i64 7900000] 49)) := BelowD.of (hBx5.alloc hBx5.size _) (Nat.le_refl _)
  generalize hWy0 : xw5.alloc (.cells #[.int .i64 2100000, .int .i64 0, .int .i64 7900000] 49) = y0 at *
  clear hWy0
  have ly0 : w.heap.size < xw5.heap.size := by omega
  have ly1 : vb < xw5.heap.size := by omega
  have ly2 : rb < xw5.heap.size := by omega
  clear x5_0_0 x5_0_1 x5_0_2 x5_0_3 x5_0_4 x5_0_5 x5_0_6 x5_0_7 x5_1_0 x5_1_1 x5_1_2 x5_1_3 x5_1_4 x5_1_5 x5_1_6 x5_1_7 x5_1_8 x5_1_9 x5_1_10 x5_1_11 x5_2_0 x5_2_1 x5_2_2 x5_2_3 x5_2_4 x5_2_5 x5_2_6 x5_2_7 x5f1 x5f2 x5o0 x5n0 x5t0_0 x5t0_1 x5o1 x5n1 x5t1_0 x5t1_1 x5o2 x5n2 x5t2_0 x5t2_1 hBx5
  generalize htb : xw5.heap.size = tb at *
  clear htb
  have m1 : w.heap.size ≠ tb := by omega
  have m2 : vb ≠ tb := by omega
  have m3 : rb ≠ tb := by omega
  have m4 : tb ≠ w.heap.size := by omega
  have m5 : tb ≠ vb := by omega
  have m6 : tb ≠ rb := by omega
  have q1 : w.heap.size < y0.heap.size := by omega
  have q2 : vb < y0.heap.size := by omega
  have q3 : rb < y0.heap.size := by omega
  have q4 : tb < y0.heap.size := by omega
  refine wp_region_Z (S := (fun w' => w'.cell? ⟨rb, 1, none⟩ = some (.int .i64 0) ∧ w'.cell? ⟨rb, 2, none⟩ = some (.int .i64 0) ∧ w'.cell? ⟨rb, 3, none⟩ = some (.int .i64 0) ∧ w'.cell? ⟨tb, 0, none⟩ = some (.int .i64 2100000) ∧ w'.cell? ⟨tb, 1, none⟩ = some (.int .i64 0) ∧ w'.cell? ⟨tb, 2, none⟩ = some (.int .i64 7900000))) 11 (by kernel_rfl) (by kernel_rfl) (by kernel_rfl) (by simp [go_sem, World.cell?_alloc_past, *]) (fun hHeld => ?_)
  refine wpAnyZ_take (i := 0) (oi := ⟨some 55, _, _, _, _, _⟩) (v := ?_) (by kernel_rfl) (by kernel_rfl) rfl rfl (by kernel_rfl) (by kernel_rfl) (by kernel_rfl) (fun _ _ _ h => h) (Or.inl ⟨by kernel_rfl, ?_⟩) (by assumption) ?_
  rotate_left
  · (intro w hSw; (try dsimp only at hSw); go_simp; all_goals with_reducible rfl)
  try simp only [Act.put, List.setIfInBounds_toArray, List.set_cons_zero, List.set_cons_succ]
  refine wpAnyZ_take (i := 1) (oi := ⟨some 56, _, _, _, _, _⟩) (v := ?_) (by kernel_rfl) (by kernel_rfl) rfl rfl (by kernel_rfl) (by kernel_rfl) (by kernel_rfl) (fun _ _ _ h => h) (Or.inl ⟨by kernel_rfl, ?_⟩) (by assumption) ?_
  rotate_left
  · (intro w hSw; (try dsimp only at hSw); go_simp; all_goals with_reducible rfl)
  try simp only [Act.put, List.setIfInBounds_toArray, List.set_cons_zero, List.set_cons_succ]
  refine wpAnyZ_take (i := 2) (oi := ⟨some 57, _, _, _, _, _⟩) (v := ?_) (by kernel_rfl) (by kernel_rfl) rfl rfl (by kernel_rfl) (by kernel_rfl) (by kernel_rfl) (fun _ _ _ h => h) (Or.inl ⟨by kernel_rfl, ?_⟩) (by assumption) ?_
  rotate_left
  · (intro w hSw; (try dsimp only at hSw); go_simp; all_goals with_reducible rfl)
  try simp only [Act.put, List.setIfInBounds_toArray, List.set_cons_zero, List.set_cons_succ]
  refine wpAnyZ_take (i := 3) (oi := ⟨some 58, _, _, _, _, _⟩) (v := ?_) (by kernel_rfl) (by kernel_rfl) rfl rfl (by kernel_rfl) (by kernel_rfl) (by kernel_rfl) (fun _ _ _ h => h) (Or.inl ⟨by kernel_rfl, ?_⟩) (by assumption) ?_
  rotate_left
  · (intro w hSw; (try dsimp only at hSw); go_simp; all_goals with_reducible rfl)
  try simp only [Act.put, List.setIfInBounds_toArray, List.set_cons_zero, List.set_cons_succ]
  refine wpAnyZ_take (i := 4) (oi := ⟨some 59, _, _, _, _, _⟩) (v := ?_) (by kernel_rfl) (by kernel_rfl) rfl rfl (by kernel_rfl) (by kernel_rfl) (by kernel_rfl) (fun _ _ _ h => h) (Or.inl ⟨by kernel_rfl, ?_⟩) (by assumption) ?_
  rotate_left
  · (intro w hSw; (try dsimp only at hSw); go_simp; all_goals with_reducible rfl)
  try simp only [Act.put, List.setIfInBounds_toArray, List.set_cons_zero, List.set_cons_succ]
  refine wpAnyZ_take (i := 5) (oi := ⟨some 60, _, _, _, _, _⟩) (v := ?_) (by kernel_rfl) (by kernel_rfl) rfl rfl (by kernel_rfl) (by kernel_rfl) (by kernel_rfl) (fun _ _ _ h => h) (Or.inl ⟨by kernel_rfl, ?_⟩) (by assumption) ?_
  rotate_left
  · (intro w hSw; (try dsimp only at hSw); go_simp; all_goals with_reducible rfl)
  try simp only [Act.put, List.setIfInBounds_toArray, List.set_cons_zero, List.set_cons_succ]
  refine wpAnyZ_take (i := 6) (oi := ⟨some 61, _, _, _, _, _⟩) (v := ?_) (by kernel_rfl) (by kernel_rfl) rfl rfl (by kernel_rfl) (by kernel_rfl) (by kernel_rfl) (fun _ _ _ h => h) (Or.inl ⟨by kernel_rfl, ?_⟩) (by assumption) ?_
  rotate_left
  · (intro w hSw; (try dsimp only at hSw); go_simp; all_goals with_reducible rfl)
  try simp only [Act.put, List.setIfInBounds_toArray, List.set_cons_zero, List.set_cons_succ]
  refine wpAnyZ_call (q := 7) (by kernel_rfl) rfl rfl (fun K hK => ?_)
  go_simp
  refine (plus_any 0 0 0 2100000 0 7900000 2100000 0 7900000 _ (by omega) (by omega) (by omega) (by omega) (by omega) (by omega) (by omega) (by omega) (by omega) (by omega) (by omega) (by omega) (Lib.hid (by decide))).mono ?_
  rintro e p1w1 ⟨rfl, hbp11⟩
  have zp11 := hbp11.size
  try simp at zp11
  obtain ⟨p11_0_0, p11_0_1, p11_0_2, p11_0_3, p11_0_4, p11_0_5, p11_0_6, p11_0_7, p11_1_0, p11_1_1, p11_1_2, p11_1_3, p11_1_4, p11_1_5, p11_1_6, p11_1_7, p11_1_8, p11_1_9, p11_1_10, p11_1_11, p11_2_0, p11_2_1, p11_2_2, p11_2_3, p11_2_4, p11_2_5, p11_2_6, p11_2_7, p11_3_0, p11_3_1, p11_3_2⟩ : p1w1.cell? ⟨w.heap.size, 0, none⟩ = some (.int .i64 0) ∧ p1w1.cell? ⟨w.heap.size, 1, none⟩ = some (.int .i64 1) ∧ p1w1.cell? ⟨w.heap.size, 2, none⟩ = some (.string ⟨#[]⟩) ∧ p1w1.cell? ⟨w.heap.size, 3, none⟩ = some (.string ⟨#[98, 97, 110, 107]⟩) ∧ p1w1.cell? ⟨w.heap.size, 4, none⟩ = some (.int .i64 210) ∧ p1w1.cell? ⟨w.heap.size, 5, none⟩ = some (.int .i64 0) ∧ p1w1.cell? ⟨w.heap.size, 6, none⟩ = some (.int .i64 10000000) ∧ p1w1.cell? ⟨w.heap.size, 7, none⟩ = some (.bool false) ∧ p1w1.cell? ⟨vb, 0, none⟩ = some (.string ⟨#[98, 97, 110, 107]⟩) ∧ p1w1.cell? ⟨vb, 1, none⟩ = some (.int .i64 50000) ∧ p1w1.cell? ⟨vb, 2, none⟩ = some (.int .i64 300000) ∧ p1w1.cell? ⟨vb, 3, none⟩ = some (.int .i64 0) ∧ p1w1.cell? ⟨vb, 4, none⟩ = some (.int .i64 0) ∧ p1w1.cell? ⟨vb, 5, none⟩ = some (.int .i64 0) ∧ p1w1.cell? ⟨vb, 6, none⟩ = some (.string ⟨#[115, 49, 50]⟩) ∧ p1w1.cell? ⟨vb, 7, none⟩ = some (.int .i64 12000) ∧ p1w1.cell? ⟨vb, 8, none⟩ = some (.int .i64 232000) ∧ p1w1.cell? ⟨vb, 9, none⟩ = some (.int .i64 0) ∧ p1w1.cell? ⟨vb, 10, none⟩ = some (.int .i64 0) ∧ p1w1.cell? ⟨vb, 11, none⟩ = some (.int .i64 0) ∧ p1w1.cell? ⟨rb, 0, none⟩ = some (.slice (some ⟨vb, 0, none⟩) 2 cap) ∧ p1w1.cell? ⟨rb, 1, none⟩ = some (.int .i64 0) ∧ p1w1.cell? ⟨rb, 2, none⟩ = some (.int .i64 0) ∧ p1w1.cell? ⟨rb, 3, none⟩ = some (.int .i64 0) ∧ p1w1.cell? ⟨rb, 4, none⟩ = some (.int .i64 0) ∧ p1w1.cell? ⟨rb, 5, none⟩ = some (.int .i64 0) ∧ p1w1.cell? ⟨rb, 6, none⟩ = some (.int .i64 0) ∧ p1w1.cell? ⟨rb, 7, none⟩ = some (.int .i64 0) ∧ p1w1.cell? ⟨tb, 0, none⟩ = some (.int .i64 2100000) ∧ p1w1.cell? ⟨tb, 1, none⟩ = some (.int .i64 0) ∧ p1w1.cell? ⟨tb, 2, none⟩ = some (.int .i64 7900000) := by refine ⟨?_, ?_, ?_, ?_, ?_, ?_, ?_, ?_, ?_, ?_, ?_, ?_, ?_, ?_, ?_, ?_, ?_, ?_, ?_, ?_, ?_, ?_, ?_, ?_, ?_, ?_, ?_, ?_, ?_, ?_, ?_⟩ <;> (rw [(bcell hbp11).1 _ _ (by first | (simp; done) | (simp; omega) | omega)]; simp [go_sem, World.cell?_alloc_past, *])
  obtain ⟨p11f1, p11f2, p11f3⟩ : (∀ j, p1w1.frozen? ⟨vb, j, none⟩ = false) ∧ (∀ j, p1w1.frozen? ⟨rb, j, none⟩ = false) ∧ (∀ j, p1w1.frozen? ⟨tb, j, none⟩ = false) := by refine ⟨?_, ?_, ?_⟩ <;> (intro j; rw [(bcell hbp11).2 _ _ (by first | (simp; done) | (simp; omega) | omega)]; simp [go_sem, *])
  obtain ⟨p11o0, p11n0, p11o1, p11n1, p11o2, p11n2, p11o3, p11n3⟩ : w.heap.size < p1w1.heap.size ∧ p1w1.heap.size ≠ w.heap.size ∧ vb < p1w1.heap.size ∧ p1w1.heap.size ≠ vb ∧ rb < p1w1.heap.size ∧ p1w1.heap.size ≠ rb ∧ tb < p1w1.heap.size ∧ p1w1.heap.size ≠ tb := by refine ⟨?_, ?_, ?_, ?_, ?_, ?_, ?_, ?_⟩ <;> omega
  have hBp11 : Below y0.heap.size y0 p1w1 := (by (repeat (first | (with_reducible refine Below.drew ?_) | (with_reducible refine below_drewN ?_ _) | (with_reducible refine Below.alloc ?_ (by first | omega | (simp; done) | (simp; omega) | (simp at *; omega)) _) | (with_reducible refine Below.setCell ?_ (by first | omega | (simp; done) | (simp; omega) | (simp at *; omega)) _) | (with_reducible exact Below.refl _ _) | (with_reducible assumption) | (with_reducible refine Below.trans ?_ (Below.mono (by assumption) (by first | omega | (simp; done) | (simp; omega) | (simp at *; omega)))))))
  clear hbp11 y0_0_0 y0_0_1 y0_0_2 y0_0_3 y0_0_4 y0_0_5 y0_0_6 y0_0_7 y0_1_0 y0_1_1 y0_1_2 y0_1_3 y0_1_4 y0_1_5 y0_1_6 y0_1_7 y0_1_8 y0_1_9 y0_1_10 y0_1_11 y0f1 y0_2_0 y0_2_1 y0_2_2 y0_2_3 y0_2_4 y0_2_5 y0_2_6 y0_2_7 y0f2 y0_3_0 y0_3_1 y0_3_2 y0f3 q1 q2 q3 q4
  go_wp2_with fail
  refine hK.out _ _ (by simp [go_sem, World.cell?_alloc_past, *]) (fun hHeld => ?_)
  clear hK K
  try simp only [Act.put, List.setIfInBounds_toArray, List.set_cons_zero, List.set_cons_succ]
  refine wpAnyZ_take (i := 8) (oi := ⟨some 63, _, _, _, _, _⟩) (v := ?_) (by kernel_rfl) (by kernel_rfl) rfl rfl (by kernel_rfl) (by kernel_rfl) (by kernel_rfl) (fun _ _ _ h => h) (Or.inl ⟨by kernel_rfl, ?_⟩) (by assumption) ?_
  rotate_left
  · (intro w hSw; (try dsimp only at hSw); go_simp; all_goals with_reducible rfl)
  try simp only [Act.put, List.setIfInBounds_toArray, List.set_cons_zero, List.set_cons_succ]
  refine wpAnyZ_take (i := 9) (oi := ⟨some 64, _, _, _, _, _⟩) (v := ?_) (by kernel_rfl) (by kernel_rfl) rfl rfl (by kernel_rfl) (by kernel_rfl) (by kernel_rfl) (fun _ _ _ h => h) (Or.inl ⟨by kernel_rfl, ?_⟩) (by assumption) ?_
  rotate_left
  · (intro w hSw; (try dsimp only at hSw); go_simp; all_goals with_reducible rfl)
  try simp only [Act.put, List.setIfInBounds_toArray, List.set_cons_zero, List.set_cons_succ]
  refine wpAnyZ_take (i := 10) (oi := ⟨some 65, _, _, _, _, _⟩) (v := ?_) (by kernel_rfl) (by kernel_rfl) rfl rfl (by kernel_rfl) (by kernel_rfl) (by kernel_rfl) (fun _ _ _ h => h) (Or.inl ⟨by kernel_rfl, ?_⟩) (by assumption) ?_
  rotate_left
  · (intro w hSw; (try dsimp only at hSw); go_simp; all_goals with_reducible rfl)
  try simp only [Act.put, List.setIfInBounds_toArray, List.set_cons_zero, List.set_cons_succ]
  refine wpAnyZ_last (by kernel_rfl) rfl (fun K hK => ?_)
  go_simp
  go_wp2_with fail
  refine hK.out _ _ ?_
  clear hK K
  try simp only [Act.put, List.setIfInBounds_toArray, List.set_cons_zero, List.set_cons_succ]
  have y1_0_0 : (((p1w1.setCell ⟨rb, 1, none⟩ (.int .i64 2100000)).setCell ⟨rb, 2, none⟩ (.int .i64 0)).setCell ⟨rb, 3, none⟩ (.int .i64 7900000)).cell? ⟨w.heap.size, 0, none⟩ = some (.int .i64 0) := by simp [go_sem, World.cell?_alloc_past, *]
  have y1_0_1 : (((p1w1.setCell ⟨rb, 1, none⟩ (.int .i64 2100000)).setCell ⟨rb, 2, none⟩ (.int .i64 0)).setCell ⟨rb, 3, none⟩ (.int .i64 7900000)).cell? ⟨w.heap.size, 1, none⟩ = some (.int .i64 1) := by simp [go_sem, World.cell?_alloc_past, *]
  have y1_0_2 : (((p1w1.setCell ⟨rb, 1, none⟩ (.int .i64 2100000)).setCell ⟨rb, 2, none⟩ (.int .i64 0)).setCell ⟨rb, 3, none⟩ (.int .i64 7900000)).cell? ⟨w.heap.size, 2, none⟩ = some (.string ⟨#[]⟩) := by simp [go_sem, World.cell?_alloc_past, *]
  have y1_0_3 : (((p1w1.setCell ⟨rb, 1, none⟩ (.int .i64 2100000)).setCell ⟨rb, 2, none⟩ (.int .i64 0)).setCell ⟨rb, 3, none⟩ (.int .i64 7900000)).cell? ⟨w.heap.size, 3, none⟩ = some (.string ⟨#[98, 97, 110, 107]⟩) := by simp [go_sem, World.cell?_alloc_past, *]
  have y1_0_4 : (((p1w1.setCell ⟨rb, 1, none⟩ (.int .i64 2100000)).setCell ⟨rb, 2, none⟩ (.int .i64 0)).setCell ⟨rb, 3, none⟩ (.int .i64 7900000)).cell? ⟨w.heap.size, 4, none⟩ = some (.int .i64 210) := by simp [go_sem, World.cell?_alloc_past, *]
  have y1_0_5 : (((p1w1.setCell ⟨rb, 1, none⟩ (.int .i64 2100000)).setCell ⟨rb, 2, none⟩ (.int .i64 0)).setCell ⟨rb, 3, none⟩ (.int .i64 7900000)).cell? ⟨w.heap.size, 5, none⟩ = some (.int .i64 0) := by simp [go_sem, World.cell?_alloc_past, *]
  have y1_0_6 : (((p1w1.setCell ⟨rb, 1, none⟩ (.int .i64 2100000)).setCell ⟨rb, 2, none⟩ (.int .i64 0)).setCell ⟨rb, 3, none⟩ (.int .i64 7900000)).cell? ⟨w.heap.size, 6, none⟩ = some (.int .i64 10000000) := by simp [go_sem, World.cell?_alloc_past, *]
  have y1_0_7 : (((p1w1.setCell ⟨rb, 1, none⟩ (.int .i64 2100000)).setCell ⟨rb, 2, none⟩ (.int .i64 0)).setCell ⟨rb, 3, none⟩ (.int .i64 7900000)).cell? ⟨w.heap.size, 7, none⟩ = some (.bool false) := by simp [go_sem, World.cell?_alloc_past, *]
  have y1_1_0 : (((p1w1.setCell ⟨rb, 1, none⟩ (.int .i64 2100000)).setCell ⟨rb, 2, none⟩ (.int .i64 0)).setCell ⟨rb, 3, none⟩ (.int .i64 7900000)).cell? ⟨vb, 0, none⟩ = some (.string ⟨#[98, 97, 110, 107]⟩) := by simp [go_sem, World.cell?_alloc_past, *]
  have y1_1_1 : (((p1w1.setCell ⟨rb, 1, none⟩ (.int .i64 2100000)).setCell ⟨rb, 2, none⟩ (.int .i64 0)).setCell ⟨rb, 3, none⟩ (.int .i64 7900000)).cell? ⟨vb, 1, none⟩ = some (.int .i64 50000) := by simp [go_sem, World.cell?_alloc_past, *]
  have y1_1_2 : (((p1w1.setCell ⟨rb, 1, none⟩ (.int .i64 2100000)).setCell ⟨rb, 2, none⟩ (.int .i64 0)).setCell ⟨rb, 3, none⟩ (.int .i64 7900000)).cell? ⟨vb, 2, none⟩ = some (.int .i64 300000) := by simp [go_sem, World.cell?_alloc_past, *]
  have y1_1_3 : (((p1w1.setCell ⟨rb, 1, none⟩ (.int .i64 2100000)).setCell ⟨rb, 2, none⟩ (.int .i64 0)).setCell ⟨rb, 3, none⟩ (.int .i64 7900000)).cell? ⟨vb, 3, none⟩ = some (.int .i64 0) := by simp [go_sem, World.cell?_alloc_past, *]
  have y1_1_4 : (((p1w1.setCell ⟨rb, 1, none⟩ (.int .i64 2100000)).setCell ⟨rb, 2, none⟩ (.int .i64 0)).setCell ⟨rb, 3, none⟩ (.int .i64 7900000)).cell? ⟨vb, 4, none⟩ = some (.int .i64 0) := by simp [go_sem, World.cell?_alloc_past, *]
  have y1_1_5 : (((p1w1.setCell ⟨rb, 1, none⟩ (.int .i64 2100000)).setCell ⟨rb, 2, none⟩ (.int .i64 0)).setCell ⟨rb, 3, none⟩ (.int .i64 7900000)).cell? ⟨vb, 5, none⟩ = some (.int .i64 0) := by simp [go_sem, World.cell?_alloc_past, *]
  have y1_1_6 : (((p1w1.setCell ⟨rb, 1, none⟩ (.int .i64 2100000)).setCell ⟨rb, 2, none⟩ (.int .i64 0)).setCell ⟨rb, 3, none⟩ (.int .i64 7900000)).cell? ⟨vb, 6, none⟩ = some (.string ⟨#[115, 49, 50]⟩) := by simp [go_sem, World.cell?_alloc_past, *]
  have y1_1_7 : (((p1w1.setCell ⟨rb, 1, none⟩ (.int .i64 2100000)).setCell ⟨rb, 2, none⟩ (.int .i64 0)).setCell ⟨rb, 3, none⟩ (.int .i64 7900000)).cell? ⟨vb, 7, none⟩ = some (.int .i64 12000) := by simp [go_sem, World.cell?_alloc_past, *]
  have y1_1_8 : (((p1w1.setCell ⟨rb, 1, none⟩ (.int .i64 2100000)).setCell ⟨rb, 2, none⟩ (.int .i64 0)).setCell ⟨rb, 3, none⟩ (.int .i64 7900000)).cell? ⟨vb, 8, none⟩ = some (.int .i64 232000) := by simp [go_sem, World.cell?_alloc_past, *]
  have y1_1_9 : (((p1w1.setCell ⟨rb, 1, none⟩ (.int .i64 2100000)).setCell ⟨rb, 2, none⟩ (.int .i64 0)).setCell ⟨rb, 3, none⟩ (.int .i64 7900000)).cell? ⟨vb, 9, none⟩ = some (.int .i64 0) := by simp [go_sem, World.cell?_alloc_past, *]
  have y1_1_10 : (((p1w1.setCell ⟨rb, 1, none⟩ (.int .i64 2100000)).setCell ⟨rb, 2, none⟩ (.int .i64 0)).setCell ⟨rb, 3, none⟩ (.int .i64 7900000)).cell? ⟨vb, 10, none⟩ = some (.int .i64 0) := by simp [go_sem, World.cell?_alloc_past, *]
  have y1_1_11 : (((p1w1.setCell ⟨rb, 1, none⟩ (.int .i64 2100000)).setCell ⟨rb, 2, none⟩ (.int .i64 0)).setCell ⟨rb, 3, none⟩ (.int .i64 7900000)).cell? ⟨vb, 11, none⟩ = some (.int .i64 0) := by simp [go_sem, World.cell?_alloc_past, *]
  have y1f1 : ∀ j, (((p1w1.setCell ⟨rb, 1, none⟩ (.int .i64 2100000)).setCell ⟨rb, 2, none⟩ (.int .i64 0)).setCell ⟨rb, 3, none⟩ (.int .i64 7900000)).frozen? ⟨vb, j, none⟩ = false := fun j => by simp [go_sem, *]
  have y1_2_0 : (((p1w1.setCell ⟨rb, 1, none⟩ (.int .i64 2100000)).setCell ⟨rb, 2, none⟩ (.int .i64 0)).setCell ⟨rb, 3, none⟩ (.int .i64 7900000)).cell? ⟨rb, 0, none⟩ = some (.slice (some ⟨vb, 0, none⟩) 2 cap) := by simp [go_sem, World.cell?_alloc_past, *]
  have y1_2_1 : (((p1w1.setCell ⟨rb, 1, none⟩ (.int .i64 2100000)).setCell ⟨rb, 2, none⟩ (.int .i64 0)).setCell ⟨rb, 3, none⟩ (.int .i64 7900000)).cell? ⟨rb, 1, none⟩ = some (.int .i64 2100000) := by simp [go_sem, World.cell?_alloc_past, *]
  have y1_2_2 : (((p1w1.setCell ⟨rb, 1, none⟩ (.int .i64 2100000)).setCell ⟨rb, 2, none⟩ (.int .i64 0)).setCell ⟨rb, 3, none⟩ (.int .i64 7900000)).cell? ⟨rb, 2, none⟩ = some (.int .i64 0) := by simp [go_sem, World.cell?_alloc_past, *]
  have y1_2_3 : (((p1w1.setCell ⟨rb, 1, none⟩ (.int .i64 2100000)).setCell ⟨rb, 2, none⟩ (.int .i64 0)).setCell ⟨rb, 3, none⟩ (.int .i64 7900000)).cell? ⟨rb, 3, none⟩ = some (.int .i64 7900000) := by simp [go_sem, World.cell?_alloc_past, *]
  have y1_2_4 : (((p1w1.setCell ⟨rb, 1, none⟩ (.int .i64 2100000)).setCell ⟨rb, 2, none⟩ (.int .i64 0)).setCell ⟨rb, 3, none⟩ (.int .i64 7900000)).cell? ⟨rb, 4, none⟩ = some (.int .i64 0) := by simp [go_sem, World.cell?_alloc_past, *]
  have y1_2_5 : (((p1w1.setCell ⟨rb, 1, none⟩ (.int .i64 2100000)).setCell ⟨rb, 2, none⟩ (.int .i64 0)).setCell ⟨rb, 3, none⟩ (.int .i64 7900000)).cell? ⟨rb, 5, none⟩ = some (.int .i64 0) := by simp [go_sem, World.cell?_alloc_past, *]
  have y1_2_6 : (((p1w1.setCell ⟨rb, 1, none⟩ (.int .i64 2100000)).setCell ⟨rb, 2, none⟩ (.int .i64 0)).setCell ⟨rb, 3, none⟩ (.int .i64 7900000)).cell? ⟨rb, 6, none⟩ = some (.int .i64 0) := by simp [go_sem, World.cell?_alloc_past, *]
  have y1_2_7 : (((p1w1.setCell ⟨rb, 1, none⟩ (.int .i64 2100000)).setCell ⟨rb, 2, none⟩ (.int .i64 0)).setCell ⟨rb, 3, none⟩ (.int .i64 7900000)).cell? ⟨rb, 7, none⟩ = some (.int .i64 0) := by simp [go_sem, World.cell?_alloc_past, *]
  have y1f2 : ∀ j, (((p1w1.setCell ⟨rb, 1, none⟩ (.int .i64 2100000)).setCell ⟨rb, 2, none⟩ (.int .i64 0)).setCell ⟨rb, 3, none⟩ (.int .i64 7900000)).frozen? ⟨rb, j, none⟩ = false := fun j => by simp [go_sem, *]
  have y1_3_0 : (((p1w1.setCell ⟨rb, 1, none⟩ (.int .i64 2100000)).setCell ⟨rb, 2, none⟩ (.int .i64 0)).setCell ⟨rb, 3, none⟩ (.int .i64 7900000)).cell? ⟨tb, 0, none⟩ = some (.int .i64 2100000) := by simp [go_sem, World.cell?_alloc_past, *]
  have y1_3_1 : (((p1w1.setCell ⟨rb, 1, none⟩ (.int .i64 2100000)).setCell ⟨rb, 2, none⟩ (.int .i64 0)).setCell ⟨rb, 3, none⟩ (.int .i64 7900000)).cell? ⟨tb, 1, none⟩ = some (.int .i64 0) := by simp [go_sem, World.cell?_alloc_past, *]
  have y1_3_2 : (((p1w1.setCell ⟨rb, 1, none⟩ (.int .i64 2100000)).setCell ⟨rb, 2, none⟩ (.int .i64 0)).setCell ⟨rb, 3, none⟩ (.int .i64 7900000)).cell? ⟨tb, 2, none⟩ = some (.int .i64 7900000) := by simp [go_sem, World.cell?_alloc_past, *]
  have y1f3 : ∀ j, (((p1w1.setCell ⟨rb, 1, none⟩ (.int .i64 2100000)).setCell ⟨rb, 2, none⟩ (.int .i64 0)).setCell ⟨rb, 3, none⟩ (.int .i64 7900000)).frozen? ⟨tb, j, none⟩ = false := fun j => by simp [go_sem, *]
  have hzy1 : (((p1w1.setCell ⟨rb, 1, none⟩ (.int .i64 2100000)).setCell ⟨rb, 2, none⟩ (.int .i64 0)).setCell ⟨rb, 3, none⟩ (.int .i64 7900000)).heap.size = p1w1.heap.size := by simp
  have hDy1 : BelowD rb vb w.heap.size w (((p1w1.setCell ⟨rb, 1, none⟩ (.int .i64 2100000)).setCell ⟨rb, 2, none⟩ (.int .i64 0)).setCell ⟨rb, 3, none⟩ (.int .i64 7900000)) := (((hDy0.trans (BelowD.of hBp11 (by omega))).set rb 1 _ (Or.inl rfl)).set rb 2 _ (Or.inl rfl)).set rb 3 _ (Or.inl rfl)
  have zsy1 : y0.heap.size ≤ (((p1w1.setCell ⟨rb, 1, none⟩ (.int .i64 2100000)).setCell ⟨rb, 2, none⟩ (.int .i64 0)).setCell ⟨rb, 3, none⟩ (.int .i64 7900000)).heap.size := by rw [hzy1]; exact hBp11.size
  clear p11_0_0 p11_0_1 p11_0_2 p11_0_3 p11_0_4 p11_0_5 p11_0_6 p11_0_7 p11_1_0 p11_1_1 p11_1_2 p11_1_3 p11_1_4 p11_1_5 p11_1_6 p11_1_7 p11_1_8 p11_1_9 p11_1_10 p11_1_11 p11_2_0 p11_2_1 p11_2_2 p11_2_3 p11_2_4 p11_2_5 p11_2_6 p11_2_7 p11_3_0 p11_3_1 p11_3_2 p11f1 p11f2 p11f3 p11o0 p11n0 p11o1 p11n1 p11o2 p11n2 p11o3 p11n3 hBp11
  generalize hWy1 : ((p1w1.setCell ⟨rb, 1, none⟩ (.int .i64 2100000)).setCell ⟨rb, 2, none⟩ (.int .i64 0)).setCell ⟨rb, 3, none⟩ (.int .i64 7900000) = y1 at *
  clear hWy1
  have q1y1 : w.heap.size < y1.heap.size := by omega
  have q2y1 : vb < y1.heap.size := by omega
  have q3y1 : rb < y1.heap.size := by omega
  have q4y1 : tb < y1.heap.size := by omega
  go_upto_region 14 with (fail)
  refine wp_region_Z (S := (fun w' => w'.cell? ⟨vb, 3, none⟩ = some (.int .i64 0) ∧ w'.cell? ⟨vb, 4, none⟩ = some (.int .i64 0) ∧ w'.cell? ⟨vb, 5, none⟩ = some (.int .i64 0) ∧ w'.cell? ⟨tb, 0, none⟩ = some (.int .i64 2100000) ∧ w'.cell? ⟨tb, 1, none⟩ = some (.int .i64 0) ∧ w'.cell? ⟨tb, 2, none⟩ = some (.int .i64 7900000))) 9 (by kernel_rfl) (by kernel_rfl) (by kernel_rfl) (by simp [go_sem, World.cell?_alloc_past, *]) (fun hHeld => ?_)
  refine wpAnyZ_take (i := 0) (oi := ⟨some 68, _, _, _, _, _⟩) (v := ?_) (by kernel_rfl) (by kernel_rfl) rfl rfl (by kernel_rfl) (by kernel_rfl) (by kernel_rfl) (fun _ _ _ h => h) (Or.inl ⟨by kernel_rfl, ?_⟩) (by assumption) ?_
  rotate_left
  · (intro w hSw; (try dsimp only at hSw); go_simp; all_goals with_reducible rfl)
  try simp only [Act.put, List.setIfInBounds_toArray, List.set_cons_zero, List.set_cons_succ]
  refine wpAnyZ_take (i := 1) (oi := ⟨some 69, _, _, _, _, _⟩) (v := ?_) (by kernel_rfl) (by kernel_rfl) rfl rfl (by kernel_rfl) (by kernel_rfl) (by kernel_rfl) (fun _ _ _ h => h) (Or.inl ⟨by kernel_rfl, ?_⟩) (by assumption) ?_
  rotate_left
  · (intro w hSw; (try dsimp only at hSw); go_simp; all_goals with_reducible rfl)
  try simp only [Act.put, List.setIfInBounds_toArray, List.set_cons_zero, List.set_cons_succ]
  refine wpAnyZ_take (i := 2) (oi := ⟨some 70, _, _, _, _, _⟩) (v := ?_) (by kernel_rfl) (by kernel_rfl) rfl rfl (by kernel_rfl) (by kernel_rfl) (by kernel_rfl) (fun _ _ _ h => h) (Or.inl ⟨by kernel_rfl, ?_⟩) (by assumption) ?_
  rotate_left
  · (intro w hSw; (try dsimp only at hSw); go_simp; all_goals with_reducible rfl)
  try simp only [Act.put, List.setIfInBounds_toArray, List.set_cons_zero, List.set_cons_succ]
  refine wpAnyZ_take (i := 3) (oi := ⟨some 71, _, _, _, _, _⟩) (v := ?_) (by kernel_rfl) (by kernel_rfl) rfl rfl (by kernel_rfl) (by kernel_rfl) (by kernel_rfl) (fun _ _ _ h => h) (Or.inl ⟨by kernel_rfl, ?_⟩) (by assumption) ?_
  rotate_left
  · (intro w hSw; (try dsimp only at hSw); go_simp; all_goals with_reducible rfl)
  try simp only [Act.put, List.setIfInBounds_toArray, List.set_cons_zero, List.set_cons_succ]
  refine wpAnyZ_take (i := 4) (oi := ⟨some 72, _, _, _, _, _⟩) (v := ?_) (by kernel_rfl) (by kernel_rfl) rfl rfl (by kernel_rfl) (by kernel_rfl) (by kernel_rfl) (fun _ _ _ h => h) (Or.inl ⟨by kernel_rfl, ?_⟩) (by assumption) ?_
  rotate_left
  · (intro w hSw; (try dsimp only at hSw); go_simp; all_goals with_reducible rfl)
  try simp only [Act.put, List.setIfInBounds_toArray, List.set_cons_zero, List.set_cons_succ]
  refine wpAnyZ_take (i := 5) (oi := ⟨some 73, _, _, _, _, _⟩) (v := ?_) (by kernel_rfl) (by kernel_rfl) rfl rfl (by kernel_rfl) (by kernel_rfl) (by kernel_rfl) (fun _ _ _ h => h) (Or.inl ⟨by kernel_rfl, ?_⟩) (by assumption) ?_
  rotate_left
  · (intro w hSw; (try dsimp only at hSw); go_simp; all_goals with_reducible rfl)
  try simp only [Act.put, List.setIfInBounds_toArray, List.set_cons_zero, List.set_cons_succ]
  refine wpAnyZ_call (q := 6) (by kernel_rfl) rfl rfl (fun K hK => ?_)
  go_simp
  refine (plus_any 0 0 0 2100000 0 7900000 2100000 0 7900000 _ (by omega) (by omega) (by omega) (by omega) (by omega) (by omega) (by omega) (by omega) (by omega) (by omega) (by omega) (by omega) (Lib.hid (by decide))).mono ?_
  rintro e p2w1 ⟨rfl, hbp21⟩
  have zp21 := hbp21.size
  try simp at zp21
  obtain ⟨p21_0_0, p21_0_1, p21_0_2, p21_0_3, p21_0_4, p21_0_5, p21_0_6, p21_0_7, p21_1_0, p21_1_1, p21_1_2, p21_1_3, p21_1_4, p21_1_5, p21_1_6, p21_1_7, p21_1_8, p21_1_9, p21_1_10, p21_1_11, p21_2_0, p21_2_1, p21_2_2, p21_2_3, p21_2_4, p21_2_5, p21_2_6, p21_2_7, p21_3_0, p21_3_1, p21_3_2⟩ : p2w1.cell? ⟨w.heap.size, 0, none⟩ = some (.int .i64 0) ∧ p2w1.cell? ⟨w.heap.size, 1, none⟩ = some (.int .i64 1) ∧ p2w1.cell? ⟨w.heap.size, 2, none⟩ = some (.string ⟨#[]⟩) ∧ p2w1.cell? ⟨w.heap.size, 3, none⟩ = some (.string ⟨#[98, 97, 110, 107]⟩) ∧ p2w1.cell? ⟨w.heap.size, 4, none⟩ = some (.int .i64 210) ∧ p2w1.cell? ⟨w.heap.size, 5, none⟩ = some (.int .i64 0) ∧ p2w1.cell? ⟨w.heap.size, 6, none⟩ = some (.int .i64 10000000) ∧ p2w1.cell? ⟨w.heap.size, 7, none⟩ = some (.bool false) ∧ p2w1.cell? ⟨vb, 0, none⟩ = some (.string ⟨#[98, 97, 110, 107]⟩) ∧ p2w1.cell? ⟨vb, 1, none⟩ = some (.int .i64 50000) ∧ p2w1.cell? ⟨vb, 2, none⟩ = some (.int .i64 300000) ∧ p2w1.cell? ⟨vb, 3, none⟩ = some (.int .i64 0) ∧ p2w1.cell? ⟨vb, 4, none⟩ = some (.int .i64 0) ∧ p2w1.cell? ⟨vb, 5, none⟩ = some (.int .i64 0) ∧ p2w1.cell? ⟨vb, 6, none⟩ = some (.string ⟨#[115, 49, 50]⟩) ∧ p2w1.cell? ⟨vb, 7, none⟩ = some (.int .i64 12000) ∧ p2w1.cell? ⟨vb, 8, none⟩ = some (.int .i64 232000) ∧ p2w1.cell? ⟨vb, 9, none⟩ = some (.int .i64 0) ∧ p2w1.cell? ⟨vb, 10, none⟩ = some (.int .i64 0) ∧ p2w1.cell? ⟨vb, 11, none⟩ = some (.int .i64 0) ∧ p2w1.cell? ⟨rb, 0, none⟩ = some (.slice (some ⟨vb, 0, none⟩) 2 cap) ∧ p2w1.cell? ⟨rb, 1, none⟩ = some (.int .i64 2100000) ∧ p2w1.cell? ⟨rb, 2, none⟩ = some (.int .i64 0) ∧ p2w1.cell? ⟨rb, 3, none⟩ = some (.int .i64 7900000) ∧ p2w1.cell? ⟨rb, 4, none⟩ = some (.int .i64 0) ∧ p2w1.cell? ⟨rb, 5, none⟩ = some (.int .i64 0) ∧ p2w1.cell? ⟨rb, 6, none⟩ = some (.int .i64 0) ∧ p2w1.cell? ⟨rb, 7, none⟩ = some (.int .i64 0) ∧ p2w1.cell? ⟨tb, 0, none⟩ = some (.int .i64 2100000) ∧ p2w1.cell? ⟨tb, 1, none⟩ = some (.int .i64 0) ∧ p2w1.cell? ⟨tb, 2, none⟩ = some (.int .i64 7900000) := by refine ⟨?_, ?_, ?_, ?_, ?_, ?_, ?_, ?_, ?_, ?_, ?_, ?_, ?_, ?_, ?_, ?_, ?_, ?_, ?_, ?_, ?_, ?_, ?_, ?_, ?_, ?_, ?_, ?_, ?_, ?_, ?_⟩ <;> (rw [(bcell hbp21).1 _ _ (by first | (simp; done) | (simp; omega) | omega)]; simp [go_sem, World.cell?_alloc_past, *])
  obtain ⟨p21f1, p21f2, p21f3⟩ : (∀ j, p2w1.frozen? ⟨vb, j, none⟩ = false) ∧ (∀ j, p2w1.frozen? ⟨rb, j, none⟩ = false) ∧ (∀ j, p2w1.frozen? ⟨tb, j, none⟩ = false) := by refine ⟨?_, ?_, ?_⟩ <;> (intro j; rw [(bcell hbp21).2 _ _ (by first | (simp; done) | (simp; omega) | omega)]; simp [go_sem, *])
  obtain ⟨p21o0, p21n0, p21o1, p21n1, p21o2, p21n2, p21o3, p21n3⟩ : w.heap.size < p2w1.heap.size ∧ p2w1.heap.size ≠ w.heap.size ∧ vb < p2w1.heap.size ∧ p2w1.heap.size ≠ vb ∧ rb < p2w1.heap.size ∧ p2w1.heap.size ≠ rb ∧ tb < p2w1.heap.size ∧ p2w1.heap.size ≠ tb := by refine ⟨?_, ?_, ?_, ?_, ?_, ?_, ?_, ?_⟩ <;> omega
  have hBp21 : Below y1.heap.size y1 p2w1 := (by (repeat (first | (with_reducible refine Below.drew ?_) | (with_reducible refine below_drewN ?_ _) | (with_reducible refine Below.alloc ?_ (by first | omega | (simp; done) | (simp; omega) | (simp at *; omega)) _) | (with_reducible refine Below.setCell ?_ (by first | omega | (simp; done) | (simp; omega) | (simp at *; omega)) _) | (with_reducible exact Below.refl _ _) | (with_reducible assumption) | (with_reducible refine Below.trans ?_ (Below.mono (by assumption) (by first | omega | (simp; done) | (simp; omega) | (simp at *; omega)))))))
  clear hbp21 y1_0_0 y1_0_1 y1_0_2 y1_0_3 y1_0_4 y1_0_5 y1_0_6 y1_0_7 y1_1_0 y1_1_1 y1_1_2 y1_1_3 y1_1_4 y1_1_5 y1_1_6 y1_1_7 y1_1_8 y1_1_9 y1_1_10 y1_1_11 y1f1 y1_2_0 y1_2_1 y1_2_2 y1_2_3 y1_2_4 y1_2_5 y1_2_6 y1_2_7 y1f2 y1_3_0 y1_3_1 y1_3_2 y1f3 q1y1 q2y1 q3y1 q4y1
  go_wp2_with fail
  refine hK.out _ _ (by simp [go_sem, World.cell?_alloc_past, *]) (fun hHeld => ?_)
  clear hK K
  try simp only [Act.put, List.setIfInBounds_toArray, List.set_cons_zero, List.set_cons_succ]
  refine wpAnyZ_take (i := 7) (oi := ⟨some 75, _, _, _, _, _⟩) (v := ?_) (by kernel_rfl) (by kernel_rfl) rfl rfl (by kernel_rfl) (by kernel_rfl) (by kernel_rfl) (fun _ _ _ h => h) (Or.inl ⟨by kernel_rfl, ?_⟩) (by assumption) ?_
  rotate_left
  · (intro w hSw; (try dsimp only at hSw); go_simp; all_goals with_reducible rfl)
  try simp only [Act.put, List.setIfInBounds_toArray, List.set_cons_zero, List.set_cons_succ]
  refine wpAnyZ_take (i := 8) (oi := ⟨some 76, _, _, _, _, _⟩) (v := ?_) (by kernel_rfl) (by kernel_rfl) rfl rfl (by kernel_rfl) (by kernel_rfl) (by kernel_rfl) (fun _ _ _ h => h) (Or.inl ⟨by kernel_rfl, ?_⟩) (by assumption) ?_
  rotate_left
  · (intro w hSw; (try dsimp only at hSw); go_simp; all_goals with_reducible rfl)
  try simp only [Act.put, List.setIfInBounds_toArray, List.set_cons_zero, List.set_cons_succ]
  refine wpAnyZ_last (by kernel_rfl) rfl (fun K hK => ?_)
  go_simp
  go_wp2_with fail
  refine hK.out _ _ ?_
  clear hK K
  try simp only [Act.put, List.setIfInBounds_toArray, List.set_cons_zero, List.set_cons_succ]
  have y2_0_0 : (((p2w1.setCell ⟨vb, 3, none⟩ (.int .i64 2100000)).setCell ⟨vb, 4, none⟩ (.int .i64 0)).setCell ⟨vb, 5, none⟩ (.int .i64 7900000)).cell? ⟨w.heap.size, 0, none⟩ = some (.int .i64 0) := by simp [go_sem, World.cell?_alloc_past, *]
  have y2_0_1 : (((p2w1.setCell ⟨vb, 3, none⟩ (.int .i64 2100000)).setCell ⟨vb, 4, none⟩ (.int .i64 0)).setCell ⟨vb, 5, none⟩ (.int .i64 7900000)).cell? ⟨w.heap.size, 1, none⟩ = some (.int .i64 1) := by simp [go_sem, World.cell?_alloc_past, *]
  have y2_0_2 : (((p2w1.setCell ⟨vb, 3, none⟩ (.int .i64 2100000)).setCell ⟨vb, 4, none⟩ (.int .i64 0)).setCell ⟨vb, 5, none⟩ (.int .i64 7900000)).cell? ⟨w.heap.size, 2, none⟩ = some (.string ⟨#[]⟩) := by simp [go_sem, World.cell?_alloc_past, *]
  have y2_0_3 : (((p2w1.setCell ⟨vb, 3, none⟩ (.int .i64 2100000)).setCell ⟨vb, 4, none⟩ (.int .i64 0)).setCell ⟨vb, 5, none⟩ (.int .i64 7900000)).cell? ⟨w.heap.size, 3, none⟩ = some (.string ⟨#[98, 97, 110, 107]⟩) := by simp [go_sem, World.cell?_alloc_past, *]
  have y2_0_4 : (((p2w1.setCell ⟨vb, 3, none⟩ (.int .i64 2100000)).setCell ⟨vb, 4, none⟩ (.int .i64 0)).setCell ⟨vb, 5, none⟩ (.int .i64 7900000)).cell? ⟨w.heap.size, 4, none⟩ = some (.int .i64 210) := by simp [go_sem, World.cell?_alloc_past, *]
  have y2_0_5 : (((p2w1.setCell ⟨vb, 3, none⟩ (.int .i64 2100000)).setCell ⟨vb, 4, none⟩ (.int .i64 0)).setCell ⟨vb, 5, none⟩ (.int .i64 7900000)).cell? ⟨w.heap.size, 5, none⟩ = some (.int .i64 0) := by simp [go_sem, World.cell?_alloc_past, *]
  have y2_0_6 : (((p2w1.setCell ⟨vb, 3, none⟩ (.int .i64 2100000)).setCell ⟨vb, 4, none⟩ (.int .i64 0)).setCell ⟨vb, 5, none⟩ (.int .i64 7900000)).cell? ⟨w.heap.size, 6, none⟩ = some (.int .i64 10000000) := by simp [go_sem, World.cell?_alloc_past, *]
  have y2_0_7 : (((p2w1.setCell ⟨vb, 3, none⟩ (.int .i64 2100000)).setCell ⟨vb, 4, none⟩ (.int .i64 0)).setCell ⟨vb, 5, none⟩ (.int .i64 7900000)).cell? ⟨w.heap.size, 7, none⟩ = some (.bool false) := by simp [go_sem, World.cell?_alloc_past, *]
  have y2_1_0 : (((p2w1.setCell ⟨vb, 3, none⟩ (.int .i64 2100000)).setCell ⟨vb, 4, none⟩ (.int .i64 0)).setCell ⟨vb, 5, none⟩ (.int .i64 7900000)).cell? ⟨vb, 0, none⟩ = some (.string ⟨#[98, 97, 110, 107]⟩) := by simp [go_sem, World.cell?_alloc_past, *]
  have y2_1_1 : (((p2w1.setCell ⟨vb, 3, none⟩ (.int .i64 2100000)).setCell ⟨vb, 4, none⟩ (.int .i64 0)).setCell ⟨vb, 5, none⟩ (.int .i64 7900000)).cell? ⟨vb, 1, none⟩ = some (.int .i64 50000) := by simp [go_sem, World.cell?_alloc_past, *]
  have y2_1_2 : (((p2w1.setCell ⟨vb, 3, none⟩ (.int .i64 2100000)).setCell ⟨vb, 4, none⟩ (.int .i64 0)).setCell ⟨vb, 5, none⟩ (.int .i64 7900000)).cell? ⟨vb, 2, none⟩ = some (.int .i64 300000) := by simp [go_sem, World.cell?_alloc_past, *]
  have y2_1_3 : (((p2w1.setCell ⟨vb, 3, none⟩ (.int .i64 2100000)).setCell ⟨vb, 4, none⟩ (.int .i64 0)).setCell ⟨vb, 5, none⟩ (.int .i64 7900000)).cell? ⟨vb, 3, none⟩ = some (.int .i64 2100000) := by simp [go_sem, World.cell?_alloc_past, *]
  have y2_1_4 : (((p2w1.setCell ⟨vb, 3, none⟩ (.int .i64 2100000)).setCell ⟨vb, 4, none⟩ (.int .i64 0)).setCell ⟨vb, 5, none⟩ (.int .i64 7900000)).cell? ⟨vb, 4, none⟩ = some (.int .i64 0) := by simp [go_sem, World.cell?_alloc_past, *]
  have y2_1_5 : (((p2w1.setCell ⟨vb, 3, none⟩ (.int .i64 2100000)).setCell ⟨vb, 4, none⟩ (.int .i64 0)).setCell ⟨vb, 5, none⟩ (.int .i64 7900000)).cell? ⟨vb, 5, none⟩ = some (.int .i64 7900000) := by simp [go_sem, World.cell?_alloc_past, *]
  have y2_1_6 : (((p2w1.setCell ⟨vb, 3, none⟩ (.int .i64 2100000)).setCell ⟨vb, 4, none⟩ (.int .i64 0)).setCell ⟨vb, 5, none⟩ (.int .i64 7900000)).cell? ⟨vb, 6, none⟩ = some (.string ⟨#[115, 49, 50]⟩) := by simp [go_sem, World.cell?_alloc_past, *]
  have y2_1_7 : (((p2w1.setCell ⟨vb, 3, none⟩ (.int .i64 2100000)).setCell ⟨vb, 4, none⟩ (.int .i64 0)).setCell ⟨vb, 5, none⟩ (.int .i64 7900000)).cell? ⟨vb, 7, none⟩ = some (.int .i64 12000) := by simp [go_sem, World.cell?_alloc_past, *]
  have y2_1_8 : (((p2w1.setCell ⟨vb, 3, none⟩ (.int .i64 2100000)).setCell ⟨vb, 4, none⟩ (.int .i64 0)).setCell ⟨vb, 5, none⟩ (.int .i64 7900000)).cell? ⟨vb, 8, none⟩ = some (.int .i64 232000) := by simp [go_sem, World.cell?_alloc_past, *]
  have y2_1_9 : (((p2w1.setCell ⟨vb, 3, none⟩ (.int .i64 2100000)).setCell ⟨vb, 4, none⟩ (.int .i64 0)).setCell ⟨vb, 5, none⟩ (.int .i64 7900000)).cell? ⟨vb, 9, none⟩ = some (.int .i64 0) := by simp [go_sem, World.cell?_alloc_past, *]
  have y2_1_10 : (((p2w1.setCell ⟨vb, 3, none⟩ (.int .i64 2100000)).setCell ⟨vb, 4, none⟩ (.int .i64 0)).setCell ⟨vb, 5, none⟩ (.int .i64 7900000)).cell? ⟨vb, 10, none⟩ = some (.int .i64 0) := by simp [go_sem, World.cell?_alloc_past, *]
  have y2_1_11 : (((p2w1.setCell ⟨vb, 3, none⟩ (.int .i64 2100000)).setCell ⟨vb, 4, none⟩ (.int .i64 0)).setCell ⟨vb, 5, none⟩ (.int .i64 7900000)).cell? ⟨vb, 11, none⟩ = some (.int .i64 0) := by simp [go_sem, World.cell?_alloc_past, *]
  have y2f1 : ∀ j, (((p2w1.setCell ⟨vb, 3, none⟩ (.int .i64 2100000)).setCell ⟨vb, 4, none⟩ (.int .i64 0)).setCell ⟨vb, 5, none⟩ (.int .i64 7900000)).frozen? ⟨vb, j, none⟩ = false := fun j => by simp [go_sem, *]
  have y2_2_0 : (((p2w1.setCell ⟨vb, 3, none⟩ (.int .i64 2100000)).setCell ⟨vb, 4, none⟩ (.int .i64 0)).setCell ⟨vb, 5, none⟩ (.int .i64 7900000)).cell? ⟨rb, 0, none⟩ = some (.slice (some ⟨vb, 0, none⟩) 2 cap) := by simp [go_sem, World.cell?_alloc_past, *]
  have y2_2_1 : (((p2w1.setCell ⟨vb, 3, none⟩ (.int .i64 2100000)).setCell ⟨vb, 4, none⟩ (.int .i64 0)).setCell ⟨vb, 5, none⟩ (.int .i64 7900000)).cell? ⟨rb, 1, none⟩ = some (.int .i64 2100000) := by simp [go_sem, World.cell?_alloc_past, *]
  have y2_2_2 : (((p2w1.setCell ⟨vb, 3, none⟩ (.int .i64 2100000)).setCell ⟨vb, 4, none⟩ (.int .i64 0)).setCell ⟨vb, 5, none⟩ (.int .i64 7900000)).cell? ⟨rb, 2, none⟩ = some (.int .i64 0) := by simp [go_sem, World.cell?_alloc_past, *]
  have y2_2_3 : (((p2w1.setCell ⟨vb, 3, none⟩ (.int .i64 2100000)).setCell ⟨vb, 4, none⟩ (.int .i64 0)).setCell ⟨vb, 5, none⟩ (.int .i64 7900000)).cell? ⟨rb, 3, none⟩ = some (.int .i64 7900000) := by simp [go_sem, World.cell?_alloc_past, *]
  have y2_2_4 : (((p2w1.setCell ⟨vb, 3, none⟩ (.int .i64 2100000)).setCell ⟨vb, 4, none⟩ (.int .i64 0)).setCell ⟨vb, 5, none⟩ (.int .i64 7900000)).cell? ⟨rb, 4, none⟩ = some (.int .i64 0) := by simp [go_sem, World.cell?_alloc_past, *]
  have y2_2_5 : (((p2w1.setCell ⟨vb, 3, none⟩ (.int .i64 2100000)).setCell ⟨vb, 4, none⟩ (.int .i64 0)).setCell ⟨vb, 5, none⟩ (.int .i64 7900000)).cell? ⟨rb, 5, none⟩ = some (.int .i64 0) := by simp [go_sem, World.cell?_alloc_past, *]
  have y2_2_6 : (((p2w1.setCell ⟨vb, 3, none⟩ (.int .i64 2100000)).setCell ⟨vb, 4, none⟩ (.int .i64 0)).setCell ⟨vb, 5, none⟩ (.int .i64 7900000)).cell? ⟨rb, 6, none⟩ = some (.int .i64 0) := by simp [go_sem, World.cell?_alloc_past, *]
  have y2_2_7 : (((p2w1.setCell ⟨vb, 3, none⟩ (.int .i64 2100000)).setCell ⟨vb, 4, none⟩ (.int .i64 0)).setCell ⟨vb, 5, none⟩ (.int .i64 7900000)).cell? ⟨rb, 7, none⟩ = some (.int .i64 0) := by simp [go_sem, World.cell?_alloc_past, *]
  have y2f2 : ∀ j, (((p2w1.setCell ⟨vb, 3, none⟩ (.int .i64 2100000)).setCell ⟨vb, 4, none⟩ (.int .i64 0)).setCell ⟨vb, 5, none⟩ (.int .i64 7900000)).frozen? ⟨rb, j, none⟩ = false := fun j => by simp [go_sem, *]
  have y2_3_0 : (((p2w1.setCell ⟨vb, 3, none⟩ (.int .i64 2100000)).setCell ⟨vb, 4, none⟩ (.int .i64 0)).setCell ⟨vb, 5, none⟩ (.int .i64 7900000)).cell? ⟨tb, 0, none⟩ = some (.int .i64 2100000) := by simp [go_sem, World.cell?_alloc_past, *]
  have y2_3_1 : (((p2w1.setCell ⟨vb, 3, none⟩ (.int .i64 2100000)).setCell ⟨vb, 4, none⟩ (.int .i64 0)).setCell ⟨vb, 5, none⟩ (.int .i64 7900000)).cell? ⟨tb, 1, none⟩ = some (.int .i64 0) := by simp [go_sem, World.cell?_alloc_past, *]
  have y2_3_2 : (((p2w1.setCell ⟨vb, 3, none⟩ (.int .i64 2100000)).setCell ⟨vb, 4, none⟩ (.int .i64 0)).setCell ⟨vb, 5, none⟩ (.int .i64 7900000)).cell? ⟨tb, 2, none⟩ = some (.int .i64 7900000) := by simp [go_sem, World.cell?_alloc_past, *]
  have y2f3 : ∀ j, (((p2w1.setCell ⟨vb, 3, none⟩ (.int .i64 2100000)).setCell ⟨vb, 4, none⟩ (.int .i64 0)).setCell ⟨vb, 5, none⟩ (.int .i64 7900000)).frozen? ⟨tb, j, none⟩ = false := fun j => by simp [go_sem, *]
  have hzy2 : (((p2w1.setCell ⟨vb, 3, none⟩ (.int .i64 2100000)).setCell ⟨vb, 4, none⟩ (.int .i64 0)).setCell ⟨vb, 5, none⟩ (.int .i64 7900000)).heap.size = p2w1.heap.size := by simp
  have hDy2 : BelowD rb vb w.heap.size w (((p2w1.setCell ⟨vb, 3, none⟩ (.int .i64 2100000)).setCell ⟨vb, 4, none⟩ (.int .i64 0)).setCell ⟨vb, 5, none⟩ (.int .i64 7900000)) := (((hDy1.trans (BelowD.of hBp21 (by omega))).set vb 3 _ (Or.inr (Or.inl rfl))).set vb 4 _ (Or.inr (Or.inl rfl))).set vb 5 _ (Or.inr (Or.inl rfl))
  have zsy2 : y1.heap.size ≤ (((p2w1.setCell ⟨vb, 3, none⟩ (.int .i64 2100000)).setCell ⟨vb, 4, none⟩ (.int .i64 0)).setCell ⟨vb, 5, none⟩ (.int .i64 7900000)).heap.size := by rw [hzy2]; exact hBp21.size
  clear p21_0_0 p21_0_1 p21_0_2 p21_0_3 p21_0_4 p21_0_5 p21_0_6 p21_0_7 p21_1_0 p21_1_1 p21_1_2 p21_1_3 p21_1_4 p21_1_5 p21_1_6 p21_1_7 p21_1_8 p21_1_9 p21_1_10 p21_1_11 p21_2_0 p21_2_1 p21_2_2 p21_2_3 p21_2_4 p21_2_5 p21_2_6 p21_2_7 p21_3_0 p21_3_1 p21_3_2 p21f1 p21f2 p21f3 p21o0 p21n0 p21o1 p21n1 p21o2 p21n2 p21o3 p21n3 hBp21
  generalize hWy2 : ((p2w1.setCell ⟨vb, 3, none⟩ (.int .i64 2100000)).setCell ⟨vb, 4, none⟩ (.int .i64 0)).setCell ⟨vb, 5, none⟩ (.int .i64 7900000) = y2 at *
  clear hWy2
  have q1y2 : w.heap.size < y2.heap.size := by omega
  have q2y2 : vb < y2.heap.size := by omega
  have q3y2 : rb < y2.heap.size := by omega
  have q4y2 : tb < y2.heap.size := by omega
  go_wp2
  go_ret
  refine ⟨rfl, ⟨(by simp [go_sem, *]), (by simp [go_sem, *]), (by simp [go_sem, *]), (by simp [go_sem, *]), (by simp [go_sem, *]), (by simp [go_sem, *]), (by simp [go_sem, *]), (by simp [go_sem, *]), (by simp [go_sem, *]), (by simp [go_sem, *]), (by simp [go_sem, *]), (by simp [go_sem, *]), (by simp [go_sem, *]), (by simp [go_sem, *]), (by simp [go_sem, *]), (by simp [go_sem, *]), (by simp [go_sem, *]), (by simp [go_sem, *]), (by simp [go_sem, *]), (by simp [go_sem, *]), (fun j => by simp [go_sem, *]), (fun j => by simp [go_sem, *])⟩, ?_⟩
  exact hDy2.set rb 7 _ (Or.inl rfl)
/-- The room behind the fill 2. -/
def Room2 (rb vb cap : Nat) (w' : World) : Prop := w'.cell? ⟨vb, 0, none⟩ = some (.string ⟨#[98, 97, 110, 107]⟩) ∧ w'.cell? ⟨vb, 1, none⟩ = some (.int .i64 50000) ∧ w'.cell? ⟨vb, 2, none⟩ = some (.int .i64 300000) ∧ w'.cell? ⟨vb, 3, none⟩ = some (.int .i64 1701000) ∧ w'.cell? ⟨vb, 4, none⟩ = some (.int .i64 0) ∧ w'.cell? ⟨vb, 5, none⟩ = some (.int .i64 6399000) ∧ w'.cell? ⟨vb, 6, none⟩ = some (.string ⟨#[115, 49, 50]⟩) ∧ w'.cell? ⟨vb, 7, none⟩ = some (.int .i64 12000) ∧ w'.cell? ⟨vb, 8, none⟩ = some (.int .i64 232000) ∧ w'.cell? ⟨vb, 9, none⟩ = some (.int .i64 399000) ∧ w'.cell? ⟨vb, 10, none⟩ = some (.int .i64 0) ∧ w'.cell? ⟨vb, 11, none⟩ = some (.int .i64 1501000) ∧ w'.cell? ⟨rb, 0, none⟩ = some (.slice (some ⟨vb, 0, none⟩) 2 cap) ∧ w'.cell? ⟨rb, 1, none⟩ = some (.int .i64 2100000) ∧ w'.cell? ⟨rb, 2, none⟩ = some (.int .i64 0) ∧ w'.cell? ⟨rb, 3, none⟩ = some (.int .i64 7900000) ∧ w'.cell? ⟨rb, 4, none⟩ = some (.int .i64 0) ∧ w'.cell? ⟨rb, 5, none⟩ = some (.int .i64 0) ∧ w'.cell? ⟨rb, 6, none⟩ = some (.int .i64 0) ∧ w'.cell? ⟨rb, 7, none⟩ = some (.int .i64 1) ∧ (∀ j, w'.frozen? ⟨vb, j, none⟩ = false) ∧ (∀ j, w'.frozen? ⟨rb, j, none⟩ = false)
def Add2 (rb vb cap : Nat) (w : World) (e : Ending) (w' : World) : Prop := e = .returned (.int .i64 0) ∧ Room2 rb vb cap w' ∧ BelowD rb vb w.heap.size w w'
set_option maxHeartbeats 8000000 in
set_option maxRecDepth 100000 in
theorem add_2 (rb vb cap : Nat) (w : World) (v0 : w.cell? ⟨vb, 0, none⟩ = some (.string ⟨#[98, 97, 110, 107]⟩)) (v1 : w.cell? ⟨vb, 1, none⟩ = some (.int .i64 50000)) (v2 : w.cell? ⟨vb, 2, none⟩ = some (.int .i64 300000)) (v3 : w.cell? ⟨vb, 3, none⟩ = some (.int .i64 2100000)) (v4 : w.cell? ⟨vb, 4, none⟩ = some (.int .i64 0)) (v5 : w.cell? ⟨vb, 5, none⟩ = some (.int .i64 7900000)) (v6 : w.cell? ⟨vb, 6, none⟩ = some (.string ⟨#[115, 49, 50]⟩)) (v7 : w.cell? ⟨vb, 7, none⟩ = some (.int .i64 12000)) (v8 : w.cell? ⟨vb, 8, none⟩ = some (.int .i64 232000)) (v9 : w.cell? ⟨vb, 9, none⟩ = some (.int .i64 0)) (v10 : w.cell? ⟨vb, 10, none⟩ = some (.int .i64 0)) (v11 : w.cell? ⟨vb, 11, none⟩ = some (.int .i64 0)) (r0 : w.cell? ⟨rb, 0, none⟩ = some (.slice (some ⟨vb, 0, none⟩) 2 cap)) (r1 : w.cell? ⟨rb, 1, none⟩ = some (.int .i64 2100000)) (r2 : w.cell? ⟨rb, 2, none⟩ = some (.int .i64 0)) (r3 : w.cell? ⟨rb, 3, none⟩ = some (.int .i64 7900000)) (r4 : w.cell? ⟨rb, 4, none⟩ = some (.int .i64 0)) (r5 : w.cell? ⟨rb, 5, none⟩ = some (.int .i64 0)) (r6 : w.cell? ⟨rb, 6, none⟩ = some (.int .i64 0)) (r7 : w.cell? ⟨rb, 7, none⟩ = some (.int .i64 1)) (vf : ∀ j, w.frozen? ⟨vb, j, none⟩ = false) (rf : ∀ j, w.frozen? ⟨rb, j, none⟩ = false) (lv : vb < w.heap.size) (lr : rb < w.heap.size) (nrv : rb ≠ vb) : Calls Try.prog 65 #[.pointer (some ⟨rb, 0, none⟩), .agg #[.int .i64 1, .int .i64 1, .string ⟨#[98, 97, 110, 107]⟩, .string ⟨#[115, 49, 50]⟩, .int .i64 0, .int .i64 0, .int .i64 1900000, .bool false]] w (Add2 rb vb cap w) := by
  have o1 : vb ≠ w.heap.size := by omega
  have o2 : rb ≠ w.heap.size := by omega
  have o3 : vb < w.heap.size + 1 := by omega
  have o4 : rb < w.heap.size + 1 := by omega
  have nvr : vb ≠ rb := fun h => nrv h.symm
  go_enter Try.func65, Try.ntmps65
  go_wp2_with fail
  refine (checkAlone_2 _).mono ?_
  rintro e xw1 ⟨rfl, hbx1⟩
  have zx1 := hbx1.size
  try simp at zx1
  obtain ⟨x1_0_0, x1_0_1, x1_0_2, x1_0_3, x1_0_4, x1_0_5, x1_0_6, x1_0_7, x1_1_0, x1_1_1, x1_1_2, x1_1_3, x1_1_4, x1_1_5, x1_1_6, x1_1_7, x1_1_8, x1_1_9, x1_1_10, x1_1_11, x1_2_0, x1_2_1, x1_2_2, x1_2_3, x1_2_4, x1_2_5, x1_2_6, x1_2_7⟩ : xw1.cell? ⟨w.heap.size, 0, none⟩ = some (.int .i64 1) ∧ xw1.cell? ⟨w.heap.size, 1, none⟩ = some (.int .i64 1) ∧ xw1.cell? ⟨w.heap.size, 2, none⟩ = some (.string ⟨#[98, 97, 110, 107]⟩) ∧ xw1.cell? ⟨w.heap.size, 3, none⟩ = some (.string ⟨#[115, 49, 50]⟩) ∧ xw1.cell? ⟨w.heap.size, 4, none⟩ = some (.int .i64 0) ∧ xw1.cell? ⟨w.heap.size, 5, none⟩ = some (.int .i64 0) ∧ xw1.cell? ⟨w.heap.size, 6, none⟩ = some (.int .i64 1900000) ∧ xw1.cell? ⟨w.heap.size, 7, none⟩ = some (.bool false) ∧ xw1.cell? ⟨vb, 0, none⟩ = some (.string ⟨#[98, 97, 110, 107]⟩) ∧ xw1.cell? ⟨vb, 1, none⟩ = some (.int .i64 50000) ∧ xw1.cell? ⟨vb, 2, none⟩ = some (.int .i64 300000) ∧ xw1.cell? ⟨vb, 3, none⟩ = some (.int .i64 2100000) ∧ xw1.cell? ⟨vb, 4, none⟩ = some (.int .i64 0) ∧ xw1.cell? ⟨vb, 5, none⟩ = some (.int .i64 7900000) ∧ xw1.cell? ⟨vb, 6, none⟩ = some (.string ⟨#[115, 49, 50]⟩) ∧ xw1.cell? ⟨vb, 7, none⟩ = some (.int .i64 12000) ∧ xw1.cell? ⟨vb, 8, none⟩ = some (.int .i64 232000) ∧ xw1.cell? ⟨vb, 9, none⟩ = some (.int .i64 0) ∧ xw1.cell? ⟨vb, 10, none⟩ = some (.int .i64 0) ∧ xw1.cell? ⟨vb, 11, none⟩ = some (.int .i64 0) ∧ xw1.cell? ⟨rb, 0, none⟩ = some (.slice (some ⟨vb, 0, none⟩) 2 cap) ∧ xw1.cell? ⟨rb, 1, none⟩ = some (.int .i64 2100000) ∧ xw1.cell? ⟨rb, 2, none⟩ = some (.int .i64 0) ∧ xw1.cell? ⟨rb, 3, none⟩ = some (.int .i64 7900000) ∧ xw1.cell? ⟨rb, 4, none⟩ = some (.int .i64 0) ∧ xw1.cell? ⟨rb, 5, none⟩ = some (.int .i64 0) ∧ xw1.cell? ⟨rb, 6, none⟩ = some (.int .i64 0) ∧ xw1.cell? ⟨rb, 7, none⟩ = some (.int .i64 1) := by refine ⟨?_, ?_, ?_, ?_, ?_, ?_, ?_, ?_, ?_, ?_, ?_, ?_, ?_, ?_, ?_, ?_, ?_, ?_, ?_, ?_, ?_, ?_, ?_, ?_, ?_, ?_, ?_, ?_⟩ <;> (rw [(bcell hbx1).1 _ _ (by first | (simp; done) | (simp; omega) | omega)]; simp [go_sem, World.cell?_alloc_past, *])
  obtain ⟨x1f1, x1f2⟩ : (∀ j, xw1.frozen? ⟨vb, j, none⟩ = false) ∧ (∀ j, xw1.frozen? ⟨rb, j, none⟩ = false) := by refine ⟨?_, ?_⟩ <;> (intro j; rw [(bcell hbx1).2 _ _ (by first | (simp; done) | (simp; omega) | omega)]; simp [go_sem, *])
  obtain ⟨x1o0, x1n0, x1t0_0, x1t0_1, x1o1, x1n1, x1t1_0, x1t1_1, x1o2, x1n2, x1t2_0, x1t2_1⟩ : w.heap.size < xw1.heap.size ∧ xw1.heap.size ≠ w.heap.size ∧ w.heap.size < xw1.heap.size + 1 ∧ w.heap.size < xw1.heap.size + 1 + 1 ∧ vb < xw1.heap.size ∧ xw1.heap.size ≠ vb ∧ vb < xw1.heap.size + 1 ∧ vb < xw1.heap.size + 1 + 1 ∧ rb < xw1.heap.size ∧ xw1.heap.size ≠ rb ∧ rb < xw1.heap.size + 1 ∧ rb < xw1.heap.size + 1 + 1 := by refine ⟨?_, ?_, ?_, ?_, ?_, ?_, ?_, ?_, ?_, ?_, ?_, ?_⟩ <;> omega
  have hBx1 : Below w.heap.size w xw1 := (by (repeat (first | (with_reducible refine Below.drew ?_) | (with_reducible refine below_drewN ?_ _) | (with_reducible refine Below.alloc ?_ (by first | omega | (simp; done) | (simp; omega) | (simp at *; omega)) _) | (with_reducible refine Below.setCell ?_ (by first | omega | (simp; done) | (simp; omega) | (simp at *; omega)) _) | (with_reducible exact Below.refl _ _) | (with_reducible assumption) | (with_reducible refine Below.trans ?_ (Below.mono (by assumption) (by first | omega | (simp; done) | (simp; omega) | (simp at *; omega)))))))
  clear hbx1 
  go_upto_region 4 with (fail)
  refine wp_region_held_drew (S := (fun w' => w'.cell? ⟨w.heap.size, 0, none⟩ = some (.int .i64 1) ∧ w'.cell? ⟨w.heap.size, 1, none⟩ = some (.int .i64 1) ∧ w'.cell? ⟨w.heap.size, 2, none⟩ = some (.string ⟨#[98, 97, 110, 107]⟩) ∧ w'.cell? ⟨w.heap.size, 3, none⟩ = some (.string ⟨#[115, 49, 50]⟩) ∧ w'.cell? ⟨w.heap.size, 4, none⟩ = some (.int .i64 0) ∧ w'.cell? ⟨w.heap.size, 5, none⟩ = some (.int .i64 0) ∧ w'.cell? ⟨w.heap.size, 6, none⟩ = some (.int .i64 1900000) ∧ w'.cell? ⟨w.heap.size, 7, none⟩ = some (.bool false) ∧ w'.cell? ⟨rb, 0, none⟩ = some (.slice (some ⟨vb, 0, none⟩) 2 cap) ∧ w'.cell? ⟨rb, 1, none⟩ = some (.int .i64 2100000) ∧ w'.cell? ⟨rb, 2, none⟩ = some (.int .i64 0) ∧ w'.cell? ⟨rb, 3, none⟩ = some (.int .i64 7900000) ∧ w'.cell? ⟨rb, 4, none⟩ = some (.int .i64 0) ∧ w'.cell? ⟨rb, 5, none⟩ = some (.int .i64 0) ∧ w'.cell? ⟨rb, 6, none⟩ = some (.int .i64 0) ∧ w'.cell? ⟨rb, 7, none⟩ = some (.int .i64 1))) (by kernel_rfl) (by simp [go_sem, World.cell?_alloc_past, *]) (fun hHeld => ?_)
  refine tkH 0 ⟨some 15, _, _, _, _, _⟩ ?_ rfl ?_ (by assumption) ?_
  rotate_left
  · (intro w hSw; (try dsimp only at hSw); go_simp; all_goals with_reducible rfl)
  try simp only [Act.put, sA, sB, sC]
  refine tkH 1 ⟨some 16, _, _, _, _, _⟩ ?_ rfl ?_ (by assumption) ?_
  rotate_left
  · (intro w hSw; (try dsimp only at hSw); go_simp; all_goals with_reducible rfl)
  try simp only [Act.put, sA, sB, sC]
  refine tkH 2 ⟨some 17, _, _, _, _, _⟩ ?_ rfl ?_ (by assumption) ?_
  rotate_left
  · (intro w hSw; (try dsimp only at hSw); go_simp; all_goals with_reducible rfl)
  try simp only [Act.put, sA, sB, sC]
  refine tkH 3 ⟨some 18, _, _, _, _, _⟩ ?_ rfl ?_ (by assumption) ?_
  rotate_left
  · (intro w hSw; (try dsimp only at hSw); go_simp; all_goals with_reducible rfl)
  try simp only [Act.put, sA, sB, sC]
  refine tkH 4 ⟨some 19, _, _, _, _, _⟩ ?_ rfl ?_ (by assumption) ?_
  rotate_left
  · (intro w hSw; (try dsimp only at hSw); go_simp; all_goals with_reducible rfl)
  try simp only [Act.put, sA, sB, sC]
  refine tkH 6 ⟨some 21, _, _, _, _, _⟩ ?_ rfl ?_ (by assumption) ?_
  rotate_left
  · (intro w hSw; (try dsimp only at hSw); go_simp; all_goals with_reducible rfl)
  try simp only [Act.put, sA, sB, sC]
  refine tkH 7 ⟨some 22, _, _, _, _, _⟩ ?_ rfl ?_ (by assumption) ?_
  rotate_left
  · (intro w hSw; (try dsimp only at hSw); go_simp; all_goals with_reducible rfl)
  try simp only [Act.put, sA, sB, sC]
  refine tkH 8 ⟨some 23, _, _, _, _, _⟩ ?_ rfl ?_ (by assumption) ?_
  rotate_left
  · (intro w hSw; (try dsimp only at hSw); go_simp; all_goals with_reducible rfl)
  try simp only [Act.put, sA, sB, sC]
  refine tkH 9 ⟨some 24, _, _, _, _, _⟩ ?_ rfl ?_ (by assumption) ?_
  rotate_left
  · (intro w hSw; (try dsimp only at hSw); go_simp; all_goals with_reducible rfl)
  try simp only [Act.put, sA, sB, sC]
  refine tkH 10 ⟨some 25, _, _, _, _, _⟩ ?_ rfl ?_ (by assumption) ?_
  rotate_left
  · (intro w hSw; (try dsimp only at hSw); go_simp; all_goals with_reducible rfl)
  try simp only [Act.put, sA, sB, sC]
  refine wpAnyH_ready (rs := [5]) (by kernel_rfl) (by simp) ?_
  refine AllReadyH.cons rfl (fun K hK => ?_) AllReadyH.nil
  go_simp
  refine (vessel_b 2100000 0 7900000 0 0 0 2100000 0 7900000 0 0 0 1 vb cap _ (by simp [go_sem, *]) (by simp [go_sem, *]) (by simp [go_sem, *]) (by simp [go_sem, *]) (by simp [go_sem, *]) (by simp [go_sem, *]) (by simp [go_sem, *]) (by simp [go_sem, *]) (by simp [go_sem, *]) (by simp [go_sem, *]) (by simp [go_sem, *]) (by simp [go_sem, *]) (by first | omega | (simp; omega))).mono ?_
  rintro e xw2 ⟨rfl, hbx2⟩
  have zx2 := hbx2.size
  try simp at zx2
  obtain ⟨x2_0_0, x2_0_1, x2_0_2, x2_0_3, x2_0_4, x2_0_5, x2_0_6, x2_0_7, x2_1_0, x2_1_1, x2_1_2, x2_1_3, x2_1_4, x2_1_5, x2_1_6, x2_1_7, x2_1_8, x2_1_9, x2_1_10, x2_1_11, x2_2_0, x2_2_1, x2_2_2, x2_2_3, x2_2_4, x2_2_5, x2_2_6, x2_2_7⟩ : xw2.cell? ⟨w.heap.size, 0, none⟩ = some (.int .i64 1) ∧ xw2.cell? ⟨w.heap.size, 1, none⟩ = some (.int .i64 1) ∧ xw2.cell? ⟨w.heap.size, 2, none⟩ = some (.string ⟨#[98, 97, 110, 107]⟩) ∧ xw2.cell? ⟨w.heap.size, 3, none⟩ = some (.string ⟨#[115, 49, 50]⟩) ∧ xw2.cell? ⟨w.heap.size, 4, none⟩ = some (.int .i64 0) ∧ xw2.cell? ⟨w.heap.size, 5, none⟩ = some (.int .i64 0) ∧ xw2.cell? ⟨w.heap.size, 6, none⟩ = some (.int .i64 1900000) ∧ xw2.cell? ⟨w.heap.size, 7, none⟩ = some (.bool false) ∧ xw2.cell? ⟨vb, 0, none⟩ = some (.string ⟨#[98, 97, 110, 107]⟩) ∧ xw2.cell? ⟨vb, 1, none⟩ = some (.int .i64 50000) ∧ xw2.cell? ⟨vb, 2, none⟩ = some (.int .i64 300000) ∧ xw2.cell? ⟨vb, 3, none⟩ = some (.int .i64 2100000) ∧ xw2.cell? ⟨vb, 4, none⟩ = some (.int .i64 0) ∧ xw2.cell? ⟨vb, 5, none⟩ = some (.int .i64 7900000) ∧ xw2.cell? ⟨vb, 6, none⟩ = some (.string ⟨#[115, 49, 50]⟩) ∧ xw2.cell? ⟨vb, 7, none⟩ = some (.int .i64 12000) ∧ xw2.cell? ⟨vb, 8, none⟩ = some (.int .i64 232000) ∧ xw2.cell? ⟨vb, 9, none⟩ = some (.int .i64 0) ∧ xw2.cell? ⟨vb, 10, none⟩ = some (.int .i64 0) ∧ xw2.cell? ⟨vb, 11, none⟩ = some (.int .i64 0) ∧ xw2.cell? ⟨rb, 0, none⟩ = some (.slice (some ⟨vb, 0, none⟩) 2 cap) ∧ xw2.cell? ⟨rb, 1, none⟩ = some (.int .i64 2100000) ∧ xw2.cell? ⟨rb, 2, none⟩ = some (.int .i64 0) ∧ xw2.cell? ⟨rb, 3, none⟩ = some (.int .i64 7900000) ∧ xw2.cell? ⟨rb, 4, none⟩ = some (.int .i64 0) ∧ xw2.cell? ⟨rb, 5, none⟩ = some (.int .i64 0) ∧ xw2.cell? ⟨rb, 6, none⟩ = some (.int .i64 0) ∧ xw2.cell? ⟨rb, 7, none⟩ = some (.int .i64 1) := by refine ⟨?_, ?_, ?_, ?_, ?_, ?_, ?_, ?_, ?_, ?_, ?_, ?_, ?_, ?_, ?_, ?_, ?_, ?_, ?_, ?_, ?_, ?_, ?_, ?_, ?_, ?_, ?_, ?_⟩ <;> (rw [(bcell hbx2).1 _ _ (by first | (simp; done) | (simp; omega) | omega)]; simp [go_sem, World.cell?_alloc_past, *])
  obtain ⟨x2f1, x2f2⟩ : (∀ j, xw2.frozen? ⟨vb, j, none⟩ = false) ∧ (∀ j, xw2.frozen? ⟨rb, j, none⟩ = false) := by refine ⟨?_, ?_⟩ <;> (intro j; rw [(bcell hbx2).2 _ _ (by first | (simp; done) | (simp; omega) | omega)]; simp [go_sem, *])
  obtain ⟨x2o0, x2n0, x2t0_0, x2t0_1, x2o1, x2n1, x2t1_0, x2t1_1, x2o2, x2n2, x2t2_0, x2t2_1⟩ : w.heap.size < xw2.heap.size ∧ xw2.heap.size ≠ w.heap.size ∧ w.heap.size < xw2.heap.size + 1 ∧ w.heap.size < xw2.heap.size + 1 + 1 ∧ vb < xw2.heap.size ∧ xw2.heap.size ≠ vb ∧ vb < xw2.heap.size + 1 ∧ vb < xw2.heap.size + 1 + 1 ∧ rb < xw2.heap.size ∧ xw2.heap.size ≠ rb ∧ rb < xw2.heap.size + 1 ∧ rb < xw2.heap.size + 1 + 1 := by refine ⟨?_, ?_, ?_, ?_, ?_, ?_, ?_, ?_, ?_, ?_, ?_, ?_⟩ <;> omega
  have hBx2 : Below w.heap.size w xw2 := (by (repeat (first | (with_reducible refine Below.drew ?_) | (with_reducible refine below_drewN ?_ _) | (with_reducible refine Below.alloc ?_ (by first | omega | (simp; done) | (simp; omega) | (simp at *; omega)) _) | (with_reducible refine Below.setCell ?_ (by first | omega | (simp; done) | (simp; omega) | (simp at *; omega)) _) | (with_reducible exact Below.refl _ _) | (with_reducible assumption) | (with_reducible refine Below.trans ?_ (Below.mono (by assumption) (by first | omega | (simp; done) | (simp; omega) | (simp at *; omega)))))))
  clear hbx2 x1_0_0 x1_0_1 x1_0_2 x1_0_3 x1_0_4 x1_0_5 x1_0_6 x1_0_7 x1_1_0 x1_1_1 x1_1_2 x1_1_3 x1_1_4 x1_1_5 x1_1_6 x1_1_7 x1_1_8 x1_1_9 x1_1_10 x1_1_11 x1_2_0 x1_2_1 x1_2_2 x1_2_3 x1_2_4 x1_2_5 x1_2_6 x1_2_7 x1f1 x1f2 x1o0 x1n0 x1t0_0 x1t0_1 x1o1 x1n1 x1t1_0 x1t1_1 x1o2 x1n2 x1t2_0 x1t2_1 hBx1
  go_wp2_with fail
  refine hK.out _ _ (by simp [go_sem, World.cell?_alloc_past, *]) (fun hHeld => ?_)
  clear hK K
  try simp only [Act.put, sA, sB, sC]
  refine wpAnyH_ready (rs := [11]) (by kernel_rfl) (by simp) ?_
  refine AllReadyH.cons rfl (fun K hK => ?_) AllReadyH.nil
  go_simp
  refine (vessel_s 2100000 0 7900000 0 0 0 2100000 0 7900000 0 0 0 1 vb cap _ (by simp [go_sem, *]) (by simp [go_sem, *]) (by simp [go_sem, *]) (by simp [go_sem, *]) (by simp [go_sem, *]) (by simp [go_sem, *]) (by simp [go_sem, *]) (by simp [go_sem, *]) (by simp [go_sem, *]) (by simp [go_sem, *]) (by simp [go_sem, *]) (by simp [go_sem, *]) (by first | omega | (simp; omega))).mono ?_
  rintro e xw3 ⟨rfl, hbx3⟩
  have zx3 := hbx3.size
  try simp at zx3
  obtain ⟨x3_0_0, x3_0_1, x3_0_2, x3_0_3, x3_0_4, x3_0_5, x3_0_6, x3_0_7, x3_1_0, x3_1_1, x3_1_2, x3_1_3, x3_1_4, x3_1_5, x3_1_6, x3_1_7, x3_1_8, x3_1_9, x3_1_10, x3_1_11, x3_2_0, x3_2_1, x3_2_2, x3_2_3, x3_2_4, x3_2_5, x3_2_6, x3_2_7⟩ : xw3.cell? ⟨w.heap.size, 0, none⟩ = some (.int .i64 1) ∧ xw3.cell? ⟨w.heap.size, 1, none⟩ = some (.int .i64 1) ∧ xw3.cell? ⟨w.heap.size, 2, none⟩ = some (.string ⟨#[98, 97, 110, 107]⟩) ∧ xw3.cell? ⟨w.heap.size, 3, none⟩ = some (.string ⟨#[115, 49, 50]⟩) ∧ xw3.cell? ⟨w.heap.size, 4, none⟩ = some (.int .i64 0) ∧ xw3.cell? ⟨w.heap.size, 5, none⟩ = some (.int .i64 0) ∧ xw3.cell? ⟨w.heap.size, 6, none⟩ = some (.int .i64 1900000) ∧ xw3.cell? ⟨w.heap.size, 7, none⟩ = some (.bool false) ∧ xw3.cell? ⟨vb, 0, none⟩ = some (.string ⟨#[98, 97, 110, 107]⟩) ∧ xw3.cell? ⟨vb, 1, none⟩ = some (.int .i64 50000) ∧ xw3.cell? ⟨vb, 2, none⟩ = some (.int .i64 300000) ∧ xw3.cell? ⟨vb, 3, none⟩ = some (.int .i64 2100000) ∧ xw3.cell? ⟨vb, 4, none⟩ = some (.int .i64 0) ∧ xw3.cell? ⟨vb, 5, none⟩ = some (.int .i64 7900000) ∧ xw3.cell? ⟨vb, 6, none⟩ = some (.string ⟨#[115, 49, 50]⟩) ∧ xw3.cell? ⟨vb, 7, none⟩ = some (.int .i64 12000) ∧ xw3.cell? ⟨vb, 8, none⟩ = some (.int .i64 232000) ∧ xw3.cell? ⟨vb, 9, none⟩ = some (.int .i64 0) ∧ xw3.cell? ⟨vb, 10, none⟩ = some (.int .i64 0) ∧ xw3.cell? ⟨vb, 11, none⟩ = some (.int .i64 0) ∧ xw3.cell? ⟨rb, 0, none⟩ = some (.slice (some ⟨vb, 0, none⟩) 2 cap) ∧ xw3.cell? ⟨rb, 1, none⟩ = some (.int .i64 2100000) ∧ xw3.cell? ⟨rb, 2, none⟩ = some (.int .i64 0) ∧ xw3.cell? ⟨rb, 3, none⟩ = some (.int .i64 7900000) ∧ xw3.cell? ⟨rb, 4, none⟩ = some (.int .i64 0) ∧ xw3.cell? ⟨rb, 5, none⟩ = some (.int .i64 0) ∧ xw3.cell? ⟨rb, 6, none⟩ = some (.int .i64 0) ∧ xw3.cell? ⟨rb, 7, none⟩ = some (.int .i64 1) := by refine ⟨?_, ?_, ?_, ?_, ?_, ?_, ?_, ?_, ?_, ?_, ?_, ?_, ?_, ?_, ?_, ?_, ?_, ?_, ?_, ?_, ?_, ?_, ?_, ?_, ?_, ?_, ?_, ?_⟩ <;> (rw [(bcell hbx3).1 _ _ (by first | (simp; done) | (simp; omega) | omega)]; simp [go_sem, World.cell?_alloc_past, *])
  obtain ⟨x3f1, x3f2⟩ : (∀ j, xw3.frozen? ⟨vb, j, none⟩ = false) ∧ (∀ j, xw3.frozen? ⟨rb, j, none⟩ = false) := by refine ⟨?_, ?_⟩ <;> (intro j; rw [(bcell hbx3).2 _ _ (by first | (simp; done) | (simp; omega) | omega)]; simp [go_sem, *])
  obtain ⟨x3o0, x3n0, x3t0_0, x3t0_1, x3o1, x3n1, x3t1_0, x3t1_1, x3o2, x3n2, x3t2_0, x3t2_1⟩ : w.heap.size < xw3.heap.size ∧ xw3.heap.size ≠ w.heap.size ∧ w.heap.size < xw3.heap.size + 1 ∧ w.heap.size < xw3.heap.size + 1 + 1 ∧ vb < xw3.heap.size ∧ xw3.heap.size ≠ vb ∧ vb < xw3.heap.size + 1 ∧ vb < xw3.heap.size + 1 + 1 ∧ rb < xw3.heap.size ∧ xw3.heap.size ≠ rb ∧ rb < xw3.heap.size + 1 ∧ rb < xw3.heap.size + 1 + 1 := by refine ⟨?_, ?_, ?_, ?_, ?_, ?_, ?_, ?_, ?_, ?_, ?_, ?_⟩ <;> omega
  have hBx3 : Below w.heap.size w xw3 := (by (repeat (first | (with_reducible refine Below.drew ?_) | (with_reducible refine below_drewN ?_ _) | (with_reducible refine Below.alloc ?_ (by first | omega | (simp; done) | (simp; omega) | (simp at *; omega)) _) | (with_reducible refine Below.setCell ?_ (by first | omega | (simp; done) | (simp; omega) | (simp at *; omega)) _) | (with_reducible exact Below.refl _ _) | (with_reducible assumption) | (with_reducible refine Below.trans ?_ (Below.mono (by assumption) (by first | omega | (simp; done) | (simp; omega) | (simp at *; omega)))))))
  clear hbx3 x2_0_0 x2_0_1 x2_0_2 x2_0_3 x2_0_4 x2_0_5 x2_0_6 x2_0_7 x2_1_0 x2_1_1 x2_1_2 x2_1_3 x2_1_4 x2_1_5 x2_1_6 x2_1_7 x2_1_8 x2_1_9 x2_1_10 x2_1_11 x2_2_0 x2_2_1 x2_2_2 x2_2_3 x2_2_4 x2_2_5 x2_2_6 x2_2_7 x2f1 x2f2 x2o0 x2n0 x2t0_0 x2t0_1 x2o1 x2n1 x2t1_0 x2t1_1 x2o2 x2n2 x2t2_0 x2t2_1 hBx2
  go_wp2_with fail
  refine hK.out _ _ (by simp [go_sem, World.cell?_alloc_past, *]) (fun hHeld => ?_)
  clear hK K
  try simp only [Act.put, sA, sB, sC]
  refine tkH 12 ⟨some 6, _, _, _, _, _⟩ ?_ rfl ?_ (by assumption) ?_
  rotate_left
  · (intro w hSw; (try dsimp only at hSw); go_simp; all_goals with_reducible rfl)
  try simp only [Act.put, sA, sB, sC]
  refine tkH 13 ⟨some 7, _, _, _, _, _⟩ ?_ rfl ?_ (by assumption) ?_
  rotate_left
  · (intro w hSw; (try dsimp only at hSw); go_simp; all_goals with_reducible rfl)
  try simp only [Act.put, sA, sB, sC]
  refine wpAnyH_done (by kernel_rfl) ?_ _
  go_wp2_with fail
  refine (checkPossible_2 rb vb cap _ (by simp [go_sem, *]) (by simp [go_sem, *]) (by simp [go_sem, *]) (by simp [go_sem, *]) (by simp [go_sem, *]) (by simp [go_sem, *]) (by simp [go_sem, *]) (by simp [go_sem, *]) (by simp [go_sem, *]) (by simp [go_sem, *]) (by simp [go_sem, *]) (by simp [go_sem, *]) (by simp [go_sem, *]) (by simp [go_sem, *]) (by simp [go_sem, *]) (by simp [go_sem, *]) (by simp [go_sem, *]) (by simp [go_sem, *]) (by simp [go_sem, *]) (by simp [go_sem, *]) (by first | omega | (simp; omega)) (by first | omega | (simp; omega))).mono ?_
  rintro e xw4 ⟨rfl, hbx4⟩
  have zx4 := hbx4.size
  try simp at zx4
  obtain ⟨x4_0_0, x4_0_1, x4_0_2, x4_0_3, x4_0_4, x4_0_5, x4_0_6, x4_0_7, x4_1_0, x4_1_1, x4_1_2, x4_1_3, x4_1_4, x4_1_5, x4_1_6, x4_1_7, x4_1_8, x4_1_9, x4_1_10, x4_1_11, x4_2_0, x4_2_1, x4_2_2, x4_2_3, x4_2_4, x4_2_5, x4_2_6, x4_2_7⟩ : xw4.cell? ⟨w.heap.size, 0, none⟩ = some (.int .i64 1) ∧ xw4.cell? ⟨w.heap.size, 1, none⟩ = some (.int .i64 1) ∧ xw4.cell? ⟨w.heap.size, 2, none⟩ = some (.string ⟨#[98, 97, 110, 107]⟩) ∧ xw4.cell? ⟨w.heap.size, 3, none⟩ = some (.string ⟨#[115, 49, 50]⟩) ∧ xw4.cell? ⟨w.heap.size, 4, none⟩ = some (.int .i64 0) ∧ xw4.cell? ⟨w.heap.size, 5, none⟩ = some (.int .i64 0) ∧ xw4.cell? ⟨w.heap.size, 6, none⟩ = some (.int .i64 1900000) ∧ xw4.cell? ⟨w.heap.size, 7, none⟩ = some (.bool false) ∧ xw4.cell? ⟨vb, 0, none⟩ = some (.string ⟨#[98, 97, 110, 107]⟩) ∧ xw4.cell? ⟨vb, 1, none⟩ = some (.int .i64 50000) ∧ xw4.cell? ⟨vb, 2, none⟩ = some (.int .i64 300000) ∧ xw4.cell? ⟨vb, 3, none⟩ = some (.int .i64 2100000) ∧ xw4.cell? ⟨vb, 4, none⟩ = some (.int .i64 0) ∧ xw4.cell? ⟨vb, 5, none⟩ = some (.int .i64 7900000) ∧ xw4.cell? ⟨vb, 6, none⟩ = some (.string ⟨#[115, 49, 50]⟩) ∧ xw4.cell? ⟨vb, 7, none⟩ = some (.int .i64 12000) ∧ xw4.cell? ⟨vb, 8, none⟩ = some (.int .i64 232000) ∧ xw4.cell? ⟨vb, 9, none⟩ = some (.int .i64 0) ∧ xw4.cell? ⟨vb, 10, none⟩ = some (.int .i64 0) ∧ xw4.cell? ⟨vb, 11, none⟩ = some (.int .i64 0) ∧ xw4.cell? ⟨rb, 0, none⟩ = some (.slice (some ⟨vb, 0, none⟩) 2 cap) ∧ xw4.cell? ⟨rb, 1, none⟩ = some (.int .i64 2100000) ∧ xw4.cell? ⟨rb, 2, none⟩ = some (.int .i64 0) ∧ xw4.cell? ⟨rb, 3, none⟩ = some (.int .i64 7900000) ∧ xw4.cell? ⟨rb, 4, none⟩ = some (.int .i64 0) ∧ xw4.cell? ⟨rb, 5, none⟩ = some (.int .i64 0) ∧ xw4.cell? ⟨rb, 6, none⟩ = some (.int .i64 0) ∧ xw4.cell? ⟨rb, 7, none⟩ = some (.int .i64 1) := by refine ⟨?_, ?_, ?_, ?_, ?_, ?_, ?_, ?_, ?_, ?_, ?_, ?_, ?_, ?_, ?_, ?_, ?_, ?_, ?_, ?_, ?_, ?_, ?_, ?_, ?_, ?_, ?_, ?_⟩ <;> (rw [(bcell hbx4).1 _ _ (by first | (simp; done) | (simp; omega) | omega)]; simp [go_sem, World.cell?_alloc_past, *])
  obtain ⟨x4f1, x4f2⟩ : (∀ j, xw4.frozen? ⟨vb, j, none⟩ = false) ∧ (∀ j, xw4.frozen? ⟨rb, j, none⟩ = false) := by refine ⟨?_, ?_⟩ <;> (intro j; rw [(bcell hbx4).2 _ _ (by first | (simp; done) | (simp; omega) | omega)]; simp [go_sem, *])
  obtain ⟨x4o0, x4n0, x4t0_0, x4t0_1, x4o1, x4n1, x4t1_0, x4t1_1, x4o2, x4n2, x4t2_0, x4t2_1⟩ : w.heap.size < xw4.heap.size ∧ xw4.heap.size ≠ w.heap.size ∧ w.heap.size < xw4.heap.size + 1 ∧ w.heap.size < xw4.heap.size + 1 + 1 ∧ vb < xw4.heap.size ∧ xw4.heap.size ≠ vb ∧ vb < xw4.heap.size + 1 ∧ vb < xw4.heap.size + 1 + 1 ∧ rb < xw4.heap.size ∧ xw4.heap.size ≠ rb ∧ rb < xw4.heap.size + 1 ∧ rb < xw4.heap.size + 1 + 1 := by refine ⟨?_, ?_, ?_, ?_, ?_, ?_, ?_, ?_, ?_, ?_, ?_, ?_⟩ <;> omega
  have hBx4 : Below w.heap.size w xw4 := (by (repeat (first | (with_reducible refine Below.drew ?_) | (with_reducible refine below_drewN ?_ _) | (with_reducible refine Below.alloc ?_ (by first | omega | (simp; done) | (simp; omega) | (simp at *; omega)) _) | (with_reducible refine Below.setCell ?_ (by first | omega | (simp; done) | (simp; omega) | (simp at *; omega)) _) | (with_reducible exact Below.refl _ _) | (with_reducible assumption) | (with_reducible refine Below.trans ?_ (Below.mono (by assumption) (by first | omega | (simp; done) | (simp; omega) | (simp at *; omega)))))))
  clear hbx4 x3_0_0 x3_0_1 x3_0_2 x3_0_3 x3_0_4 x3_0_5 x3_0_6 x3_0_7 x3_1_0 x3_1_1 x3_1_2 x3_1_3 x3_1_4 x3_1_5 x3_1_6 x3_1_7 x3_1_8 x3_1_9 x3_1_10 x3_1_11 x3_2_0 x3_2_1 x3_2_2 x3_2_3 x3_2_4 x3_2_5 x3_2_6 x3_2_7 x3f1 x3f2 x3o0 x3n0 x3t0_0 x3t0_1 x3o1 x3n1 x3t1_0 x3t1_1 x3o2 x3n2 x3t2_0 x3t2_1 hBx3
  go_wp2_with fail
  refine (broughtIn_2 _).mono ?_
  rintro e xw5 ⟨rfl, hbx5⟩
  have zx5 := hbx5.size
  try simp at zx5
  obtain ⟨x5_0_0, x5_0_1, x5_0_2, x5_0_3, x5_0_4, x5_0_5, x5_0_6, x5_0_7, x5_1_0, x5_1_1, x5_1_2, x5_1_3, x5_1_4, x5_1_5, x5_1_6, x5_1_7, x5_1_8, x5_1_9, x5_1_10, x5_1_11, x5_2_0, x5_2_1, x5_2_2, x5_2_3, x5_2_4, x5_2_5, x5_2_6, x5_2_7⟩ : xw5.cell? ⟨w.heap.size, 0, none⟩ = some (.int .i64 1) ∧ xw5.cell? ⟨w.heap.size, 1, none⟩ = some (.int .i64 1) ∧ xw5.cell? ⟨w.heap.size, 2, none⟩ = some (.string ⟨#[98, 97, 110, 107]⟩) ∧ xw5.cell? ⟨w.heap.size, 3, none⟩ = some (.string ⟨#[115, 49, 50]⟩) ∧ xw5.cell? ⟨w.heap.size, 4, none⟩ = some (.int .i64 0) ∧ xw5.cell? ⟨w.heap.size, 5, none⟩ = some (.int .i64 0) ∧ xw5.cell? ⟨w.heap.size, 6, none⟩ = some (.int .i64 1900000) ∧ xw5.cell? ⟨w.heap.size, 7, none⟩ = some (.bool false) ∧ xw5.cell? ⟨vb, 0, none⟩ = some (.string ⟨#[98, 97, 110, 107]⟩) ∧ xw5.cell? ⟨vb, 1, none⟩ = some (.int .i64 50000) ∧ xw5.cell? ⟨vb, 2, none⟩ = some (.int .i64 300000) ∧ xw5.cell? ⟨vb, 3, none⟩ = some (.int .i64 2100000) ∧ xw5.cell? ⟨vb, 4, none⟩ = some (.int .i64 0) ∧ xw5.cell? ⟨vb, 5, none⟩ = some (.int .i64 7900000) ∧ xw5.cell? ⟨vb, 6, none⟩ = some (.string ⟨#[115, 49, 50]⟩) ∧ xw5.cell? ⟨vb, 7, none⟩ = some (.int .i64 12000) ∧ xw5.cell? ⟨vb, 8, none⟩ = some (.int .i64 232000) ∧ xw5.cell? ⟨vb, 9, none⟩ = some (.int .i64 0) ∧ xw5.cell? ⟨vb, 10, none⟩ = some (.int .i64 0) ∧ xw5.cell? ⟨vb, 11, none⟩ = some (.int .i64 0) ∧ xw5.cell? ⟨rb, 0, none⟩ = some (.slice (some ⟨vb, 0, none⟩) 2 cap) ∧ xw5.cell? ⟨rb, 1, none⟩ = some (.int .i64 2100000) ∧ xw5.cell? ⟨rb, 2, none⟩ = some (.int .i64 0) ∧ xw5.cell? ⟨rb, 3, none⟩ = some (.int .i64 7900000) ∧ xw5.cell? ⟨rb, 4, none⟩ = some (.int .i64 0) ∧ xw5.cell? ⟨rb, 5, none⟩ = some (.int .i64 0) ∧ xw5.cell? ⟨rb, 6, none⟩ = some (.int .i64 0) ∧ xw5.cell? ⟨rb, 7, none⟩ = some (.int .i64 1) := by refine ⟨?_, ?_, ?_, ?_, ?_, ?_, ?_, ?_, ?_, ?_, ?_, ?_, ?_, ?_, ?_, ?_, ?_, ?_, ?_, ?_, ?_, ?_, ?_, ?_, ?_, ?_, ?_, ?_⟩ <;> (rw [(bcell hbx5).1 _ _ (by first | (simp; done) | (simp; omega) | omega)]; simp [go_sem, World.cell?_alloc_past, *])
  obtain ⟨x5f1, x5f2⟩ : (∀ j, xw5.frozen? ⟨vb, j, none⟩ = false) ∧ (∀ j, xw5.frozen? ⟨rb, j, none⟩ = false) := by refine ⟨?_, ?_⟩ <;> (intro j; rw [(bcell hbx5).2 _ _ (by first | (simp; done) | (simp; omega) | omega)]; simp [go_sem, *])
  obtain ⟨x5o0, x5n0, x5t0_0, x5t0_1, x5o1, x5n1, x5t1_0, x5t1_1, x5o2, x5n2, x5t2_0, x5t2_1⟩ : w.heap.size < xw5.heap.size ∧ xw5.heap.size ≠ w.heap.size ∧ w.heap.size < xw5.heap.size + 1 ∧ w.heap.size < xw5.heap.size + 1 + 1 ∧ vb < xw5.heap.size ∧ xw5.heap.size ≠ vb ∧ vb < xw5.heap.size + 1 ∧ vb < xw5.heap.size + 1 + 1 ∧ rb < xw5.heap.size ∧ xw5.heap.size ≠ rb ∧ rb < xw5.heap.size + 1 ∧ rb < xw5.heap.size + 1 + 1 := by refine ⟨?_, ?_, ?_, ?_, ?_, ?_, ?_, ?_, ?_, ?_, ?_, ?_⟩ <;> omega
  have hBx5 : Below w.heap.size w xw5 := (by (repeat (first | (with_reducible refine Below.drew ?_) | (with_reducible refine below_drewN ?_ _) | (with_reducible refine Below.alloc ?_ (by first | omega | (simp; done) | (simp; omega) | (simp at *; omega)) _) | (with_reducible refine Below.setCell ?_ (by first | omega | (simp; done) | (simp; omega) | (simp at *; omega)) _) | (with_reducible exact Below.refl _ _) | (with_reducible assumption) | (with_reducible refine Below.trans ?_ (Below.mono (by assumption) (by first | omega | (simp; done) | (simp; omega) | (simp at *; omega)))))))
  clear hbx5 x4_0_0 x4_0_1 x4_0_2 x4_0_3 x4_0_4 x4_0_5 x4_0_6 x4_0_7 x4_1_0 x4_1_1 x4_1_2 x4_1_3 x4_1_4 x4_1_5 x4_1_6 x4_1_7 x4_1_8 x4_1_9 x4_1_10 x4_1_11 x4_2_0 x4_2_1 x4_2_2 x4_2_3 x4_2_4 x4_2_5 x4_2_6 x4_2_7 x4f1 x4f2 x4o0 x4n0 x4t0_0 x4t0_1 x4o1 x4n1 x4t1_0 x4t1_1 x4o2 x4n2 x4t2_0 x4t2_1 hBx4
  go_upto_region 10 with (fail)
  have y0_0_0 : (xw5.alloc (.cells #[.int .i64 0, .int .i64 0, .int .i64 1900000] 49)).cell? ⟨w.heap.size, 0, none⟩ = some (.int .i64 1) := by simp [go_sem, World.cell?_alloc_past, *]
  have y0_0_1 : (xw5.alloc (.cells #[.int .i64 0, .int .i64 0, .int .i64 1900000] 49)).cell? ⟨w.heap.size, 1, none⟩ = some (.int .i64 1) := by simp [go_sem, World.cell?_alloc_past, *]
  have y0_0_2 : (xw5.alloc (.cells #[.int .i64 0, .int .i64 0, .int .i64 1900000] 49)).cell? ⟨w.heap.size, 2, none⟩ = some (.string ⟨#[98, 97, 110, 107]⟩) := by simp [go_sem, World.cell?_alloc_past, *]
  have y0_0_3 : (xw5.alloc (.cells #[.int .i64 0, .int .i64 0, .int .i64 1900000] 49)).cell? ⟨w.heap.size, 3, none⟩ = some (.string ⟨#[115, 49, 50]⟩) := by simp [go_sem, World.cell?_alloc_past, *]
  have y0_0_4 : (xw5.alloc (.cells #[.int .i64 0, .int .i64 0, .int .i64 1900000] 49)).cell? ⟨w.heap.size, 4, none⟩ = some (.int .i64 0) := by simp [go_sem, World.cell?_alloc_past, *]
  have y0_0_5 : (xw5.alloc (.cells #[.int .i64 0, .int .i64 0, .int .i64 1900000] 49)).cell? ⟨w.heap.size, 5, none⟩ = some (.int .i64 0) := by simp [go_sem, World.cell?_alloc_past, *]
  have y0_0_6 : (xw5.alloc (.cells #[.int .i64 0, .int .i64 0, .int .i64 1900000] 49)).cell? ⟨w.heap.size, 6, none⟩ = some (.int .i64 1900000) := by simp [go_sem, World.cell?_alloc_past, *]
  have y0_0_7 : (xw5.alloc (.cells #[.int .i64 0, .int .i64 0, .int .i64 1900000] 49)).cell? ⟨w.heap.size, 7, none⟩ = some (.bool false) := by simp [go_sem, World.cell?_alloc_past, *]
  have y0_1_0 : (xw5.alloc (.cells #[.int .i64 0, .int .i64 0, .int .i64 1900000] 49)).cell? ⟨vb, 0, none⟩ = some (.string ⟨#[98, 97, 110, 107]⟩) := by simp [go_sem, World.cell?_alloc_past, *]
  have y0_1_1 : (xw5.alloc (.cells #[.int .i64 0, .int .i64 0, .int .i64 1900000] 49)).cell? ⟨vb, 1, none⟩ = some (.int .i64 50000) := by simp [go_sem, World.cell?_alloc_past, *]
  have y0_1_2 : (xw5.alloc (.cells #[.int .i64 0, .int .i64 0, .int .i64 1900000] 49)).cell? ⟨vb, 2, none⟩ = some (.int .i64 300000) := by simp [go_sem, World.cell?_alloc_past, *]
  have y0_1_3 : (xw5.alloc (.cells #[.int .i64 0, .int .i64 0, .int .i64 1900000] 49)).cell? ⟨vb, 3, none⟩ = some (.int .i64 2100000) := by simp [go_sem, World.cell?_alloc_past, *]
  have y0_1_4 : (xw5.alloc (.cells #[.int .i64 0, .int .i64 0, .int .i64 1900000] 49)).cell? ⟨vb, 4, none⟩ = some (.int .i64 0) := by simp [go_sem, World.cell?_alloc_past, *]
  have y0_1_5 : (xw5.alloc (.cells #[.int .i64 0, .int .i64 0, .int .i64 1900000] 49)).cell? ⟨vb, 5, none⟩ = some (.int .i64 7900000) := by simp [go_sem, World.cell?_alloc_past, *]
  have y0_1_6 : (xw5.alloc (.cells #[.int .i64 0, .int .i64 0, .int .i64 1900000] 49)).cell? ⟨vb, 6, none⟩ = some (.string ⟨#[115, 49, 50]⟩) := by simp [go_sem, World.cell?_alloc_past, *]
  have y0_1_7 : (xw5.alloc (.cells #[.int .i64 0, .int .i64 0, .int .i64 1900000] 49)).cell? ⟨vb, 7, none⟩ = some (.int .i64 12000) := by simp [go_sem, World.cell?_alloc_past, *]
  have y0_1_8 : (xw5.alloc (.cells #[.int .i64 0, .int .i64 0, .int .i64 1900000] 49)).cell? ⟨vb, 8, none⟩ = some (.int .i64 232000) := by simp [go_sem, World.cell?_alloc_past, *]
  have y0_1_9 : (xw5.alloc (.cells #[.int .i64 0, .int .i64 0, .int .i64 1900000] 49)).cell? ⟨vb, 9, none⟩ = some (.int .i64 0) := by simp [go_sem, World.cell?_alloc_past, *]
  have y0_1_10 : (xw5.alloc (.cells #[.int .i64 0, .int .i64 0, .int .i64 1900000] 49)).cell? ⟨vb, 10, none⟩ = some (.int .i64 0) := by simp [go_sem, World.cell?_alloc_past, *]
  have y0_1_11 : (xw5.alloc (.cells #[.int .i64 0, .int .i64 0, .int .i64 1900000] 49)).cell? ⟨vb, 11, none⟩ = some (.int .i64 0) := by simp [go_sem, World.cell?_alloc_past, *]
  have y0f1 : ∀ j, (xw5.alloc (.cells #[.int .i64 0, .int .i64 0, .int .i64 1900000] 49)).frozen? ⟨vb, j, none⟩ = false := fun j => by simp [go_sem, *]
  have y0_2_0 : (xw5.alloc (.cells #[.int .i64 0, .int .i64 0, .int .i64 1900000] 49)).cell? ⟨rb, 0, none⟩ = some (.slice (some ⟨vb, 0, none⟩) 2 cap) := by simp [go_sem, World.cell?_alloc_past, *]
  have y0_2_1 : (xw5.alloc (.cells #[.int .i64 0, .int .i64 0, .int .i64 1900000] 49)).cell? ⟨rb, 1, none⟩ = some (.int .i64 2100000) := by simp [go_sem, World.cell?_alloc_past, *]
  have y0_2_2 : (xw5.alloc (.cells #[.int .i64 0, .int .i64 0, .int .i64 1900000] 49)).cell? ⟨rb, 2, none⟩ = some (.int .i64 0) := by simp [go_sem, World.cell?_alloc_past, *]
  have y0_2_3 : (xw5.alloc (.cells #[.int .i64 0, .int .i64 0, .int .i64 1900000] 49)).cell? ⟨rb, 3, none⟩ = some (.int .i64 7900000) := by simp [go_sem, World.cell?_alloc_past, *]
  have y0_2_4 : (xw5.alloc (.cells #[.int .i64 0, .int .i64 0, .int .i64 1900000] 49)).cell? ⟨rb, 4, none⟩ = some (.int .i64 0) := by simp [go_sem, World.cell?_alloc_past, *]
  have y0_2_5 : (xw5.alloc (.cells #[.int .i64 0, .int .i64 0, .int .i64 1900000] 49)).cell? ⟨rb, 5, none⟩ = some (.int .i64 0) := by simp [go_sem, World.cell?_alloc_past, *]
  have y0_2_6 : (xw5.alloc (.cells #[.int .i64 0, .int .i64 0, .int .i64 1900000] 49)).cell? ⟨rb, 6, none⟩ = some (.int .i64 0) := by simp [go_sem, World.cell?_alloc_past, *]
  have y0_2_7 : (xw5.alloc (.cells #[.int .i64 0, .int .i64 0, .int .i64 1900000] 49)).cell? ⟨rb, 7, none⟩ = some (.int .i64 1) := by simp [go_sem, World.cell?_alloc_past, *]
  have y0f2 : ∀ j, (xw5.alloc (.cells #[.int .i64 0, .int .i64 0, .int .i64 1900000] 49)).frozen? ⟨rb, j, none⟩ = false := fun j => by simp [go_sem, *]
  have y0_3_0 : (xw5.alloc (.cells #[.int .i64 0, .int .i64 0, .int .i64 1900000] 49)).cell? ⟨xw5.heap.size, 0, none⟩ = some (.int .i64 0) := by simp [go_sem, World.cell?_alloc_past, *]
  have y0_3_1 : (xw5.alloc (.cells #[.int .i64 0, .int .i64 0, .int .i64 1900000] 49)).cell? ⟨xw5.heap.size, 1, none⟩ = some (.int .i64 0) := by simp [go_sem, World.cell?_alloc_past, *]
  have y0_3_2 : (xw5.alloc (.cells #[.int .i64 0, .int .i64 0, .int .i64 1900000] 49)).cell? ⟨xw5.heap.size, 2, none⟩ = some (.int .i64 1900000) := by simp [go_sem, World.cell?_alloc_past, *]
  have y0f3 : ∀ j, (xw5.alloc (.cells #[.int .i64 0, .int .i64 0, .int .i64 1900000] 49)).frozen? ⟨xw5.heap.size, j, none⟩ = false := fun j => by simp [go_sem, *]
  have hzy0 : (xw5.alloc (.cells #[.int .i64 0, .int .i64 0, .int .i64 1900000] 49)).heap.size = xw5.heap.size + 1 := by simp
  have hDy0 : BelowD rb vb w.heap.size w (xw5.alloc (.cells #[.int .i64 0, .int .i64 0, .int .i64 1900000] 49)) := BelowD.of (hBx5.alloc hBx5.size _) (Nat.le_refl _)
  generalize hWy0 : xw5.alloc (.cells #[.int .i64 0, .int .i64 0, .int .i64 1900000] 49) = y0 at *
  clear hWy0
  have ly0 : w.heap.size < xw5.heap.size := by omega
  have ly1 : vb < xw5.heap.size := by omega
  have ly2 : rb < xw5.heap.size := by omega
  clear x5_0_0 x5_0_1 x5_0_2 x5_0_3 x5_0_4 x5_0_5 x5_0_6 x5_0_7 x5_1_0 x5_1_1 x5_1_2 x5_1_3 x5_1_4 x5_1_5 x5_1_6 x5_1_7 x5_1_8 x5_1_9 x5_1_10 x5_1_11 x5_2_0 x5_2_1 x5_2_2 x5_2_3 x5_2_4 x5_2_5 x5_2_6 x5_2_7 x5f1 x5f2 x5o0 x5n0 x5t0_0 x5t0_1 x5o1 x5n1 x5t1_0 x5t1_1 x5o2 x5n2 x5t2_0 x5t2_1 hBx5
  generalize htb : xw5.heap.size = tb at *
  clear htb
  have m1 : w.heap.size ≠ tb := by omega
  have m2 : vb ≠ tb := by omega
  have m3 : rb ≠ tb := by omega
  have m4 : tb ≠ w.heap.size := by omega
  have m5 : tb ≠ vb := by omega
  have m6 : tb ≠ rb := by omega
  have q1 : w.heap.size < y0.heap.size := by omega
  have q2 : vb < y0.heap.size := by omega
  have q3 : rb < y0.heap.size := by omega
  have q4 : tb < y0.heap.size := by omega
  refine wp_region_held_drew (S := (fun w' => w'.cell? ⟨vb, 3, none⟩ = some (.int .i64 2100000) ∧ w'.cell? ⟨vb, 4, none⟩ = some (.int .i64 0) ∧ w'.cell? ⟨vb, 5, none⟩ = some (.int .i64 7900000) ∧ w'.cell? ⟨w.heap.size, 6, none⟩ = some (.int .i64 1900000))) (by kernel_rfl) (by simp [go_sem, World.cell?_alloc_past, *]) (fun hHeld => ?_)
  refine tkH 0 ⟨some 39, _, _, _, _, _⟩ ?_ rfl ?_ (by assumption) ?_
  rotate_left
  · (intro w hSw; (try dsimp only at hSw); go_simp; all_goals with_reducible rfl)
  try simp only [Act.put, sA, sB, sC]
  refine tkH 1 ⟨some 40, _, _, _, _, _⟩ ?_ rfl ?_ (by assumption) ?_
  rotate_left
  · (intro w hSw; (try dsimp only at hSw); go_simp; all_goals with_reducible rfl)
  try simp only [Act.put, sA, sB, sC]
  refine tkH 2 ⟨some 41, _, _, _, _, _⟩ ?_ rfl ?_ (by assumption) ?_
  rotate_left
  · (intro w hSw; (try dsimp only at hSw); go_simp; all_goals with_reducible rfl)
  try simp only [Act.put, sA, sB, sC]
  refine tkH 3 ⟨some 42, _, _, _, _, _⟩ ?_ rfl ?_ (by assumption) ?_
  rotate_left
  · (intro w hSw; (try dsimp only at hSw); go_simp; all_goals with_reducible rfl)
  try simp only [Act.put, sA, sB, sC]
  refine tkH 4 ⟨some 43, _, _, _, _, _⟩ ?_ rfl ?_ (by assumption) ?_
  rotate_left
  · (intro w hSw; (try dsimp only at hSw); go_simp; all_goals with_reducible rfl)
  try simp only [Act.put, sA, sB, sC]
  refine tkH 5 ⟨some 44, _, _, _, _, _⟩ ?_ rfl ?_ (by assumption) ?_
  rotate_left
  · (intro w hSw; (try dsimp only at hSw); go_simp; all_goals with_reducible rfl)
  try simp only [Act.put, sA, sB, sC]
  refine wpAnyH_ready (rs := [6]) (by kernel_rfl) (by simp) ?_
  refine AllReadyH.cons rfl (fun K hK => ?_) AllReadyH.nil
  go_simp
  refine (shareOf_any 2100000 0 7900000 1900000 399000 0 1501000 _ (Lib.hid (by decide)) (by omega) (by omega) (Lib.hid (by decide))).mono ?_
  rintro e p1w1 ⟨rfl, hbp11⟩
  have zp11 := hbp11.size
  try simp at zp11
  obtain ⟨p11_0_0, p11_0_1, p11_0_2, p11_0_3, p11_0_4, p11_0_5, p11_0_6, p11_0_7, p11_1_0, p11_1_1, p11_1_2, p11_1_3, p11_1_4, p11_1_5, p11_1_6, p11_1_7, p11_1_8, p11_1_9, p11_1_10, p11_1_11, p11_2_0, p11_2_1, p11_2_2, p11_2_3, p11_2_4, p11_2_5, p11_2_6, p11_2_7, p11_3_0, p11_3_1, p11_3_2⟩ : p1w1.cell? ⟨w.heap.size, 0, none⟩ = some (.int .i64 1) ∧ p1w1.cell? ⟨w.heap.size, 1, none⟩ = some (.int .i64 1) ∧ p1w1.cell? ⟨w.heap.size, 2, none⟩ = some (.string ⟨#[98, 97, 110, 107]⟩) ∧ p1w1.cell? ⟨w.heap.size, 3, none⟩ = some (.string ⟨#[115, 49, 50]⟩) ∧ p1w1.cell? ⟨w.heap.size, 4, none⟩ = some (.int .i64 0) ∧ p1w1.cell? ⟨w.heap.size, 5, none⟩ = some (.int .i64 0) ∧ p1w1.cell? ⟨w.heap.size, 6, none⟩ = some (.int .i64 1900000) ∧ p1w1.cell? ⟨w.heap.size, 7, none⟩ = some (.bool false) ∧ p1w1.cell? ⟨vb, 0, none⟩ = some (.string ⟨#[98, 97, 110, 107]⟩) ∧ p1w1.cell? ⟨vb, 1, none⟩ = some (.int .i64 50000) ∧ p1w1.cell? ⟨vb, 2, none⟩ = some (.int .i64 300000) ∧ p1w1.cell? ⟨vb, 3, none⟩ = some (.int .i64 2100000) ∧ p1w1.cell? ⟨vb, 4, none⟩ = some (.int .i64 0) ∧ p1w1.cell? ⟨vb, 5, none⟩ = some (.int .i64 7900000) ∧ p1w1.cell? ⟨vb, 6, none⟩ = some (.string ⟨#[115, 49, 50]⟩) ∧ p1w1.cell? ⟨vb, 7, none⟩ = some (.int .i64 12000) ∧ p1w1.cell? ⟨vb, 8, none⟩ = some (.int .i64 232000) ∧ p1w1.cell? ⟨vb, 9, none⟩ = some (.int .i64 0) ∧ p1w1.cell? ⟨vb, 10, none⟩ = some (.int .i64 0) ∧ p1w1.cell? ⟨vb, 11, none⟩ = some (.int .i64 0) ∧ p1w1.cell? ⟨rb, 0, none⟩ = some (.slice (some ⟨vb, 0, none⟩) 2 cap) ∧ p1w1.cell? ⟨rb, 1, none⟩ = some (.int .i64 2100000) ∧ p1w1.cell? ⟨rb, 2, none⟩ = some (.int .i64 0) ∧ p1w1.cell? ⟨rb, 3, none⟩ = some (.int .i64 7900000) ∧ p1w1.cell? ⟨rb, 4, none⟩ = some (.int .i64 0) ∧ p1w1.cell? ⟨rb, 5, none⟩ = some (.int .i64 0) ∧ p1w1.cell? ⟨rb, 6, none⟩ = some (.int .i64 0) ∧ p1w1.cell? ⟨rb, 7, none⟩ = some (.int .i64 1) ∧ p1w1.cell? ⟨tb, 0, none⟩ = some (.int .i64 0) ∧ p1w1.cell? ⟨tb, 1, none⟩ = some (.int .i64 0) ∧ p1w1.cell? ⟨tb, 2, none⟩ = some (.int .i64 1900000) := by refine ⟨?_, ?_, ?_, ?_, ?_, ?_, ?_, ?_, ?_, ?_, ?_, ?_, ?_, ?_, ?_, ?_, ?_, ?_, ?_, ?_, ?_, ?_, ?_, ?_, ?_, ?_, ?_, ?_, ?_, ?_, ?_⟩ <;> (rw [(bcell hbp11).1 _ _ (by first | (simp; done) | (simp; omega) | omega)]; simp [go_sem, World.cell?_alloc_past, *])
  obtain ⟨p11f1, p11f2, p11f3⟩ : (∀ j, p1w1.frozen? ⟨vb, j, none⟩ = false) ∧ (∀ j, p1w1.frozen? ⟨rb, j, none⟩ = false) ∧ (∀ j, p1w1.frozen? ⟨tb, j, none⟩ = false) := by refine ⟨?_, ?_, ?_⟩ <;> (intro j; rw [(bcell hbp11).2 _ _ (by first | (simp; done) | (simp; omega) | omega)]; simp [go_sem, *])
  obtain ⟨p11o0, p11n0, p11o1, p11n1, p11o2, p11n2, p11o3, p11n3⟩ : w.heap.size < p1w1.heap.size ∧ p1w1.heap.size ≠ w.heap.size ∧ vb < p1w1.heap.size ∧ p1w1.heap.size ≠ vb ∧ rb < p1w1.heap.size ∧ p1w1.heap.size ≠ rb ∧ tb < p1w1.heap.size ∧ p1w1.heap.size ≠ tb := by refine ⟨?_, ?_, ?_, ?_, ?_, ?_, ?_, ?_⟩ <;> omega
  have hBp11 : Below y0.heap.size y0 p1w1 := (by (repeat (first | (with_reducible refine Below.drew ?_) | (with_reducible refine below_drewN ?_ _) | (with_reducible refine Below.alloc ?_ (by first | omega | (simp; done) | (simp; omega) | (simp at *; omega)) _) | (with_reducible refine Below.setCell ?_ (by first | omega | (simp; done) | (simp; omega) | (simp at *; omega)) _) | (with_reducible exact Below.refl _ _) | (with_reducible assumption) | (with_reducible refine Below.trans ?_ (Below.mono (by assumption) (by first | omega | (simp; done) | (simp; omega) | (simp at *; omega)))))))
  clear hbp11 y0_0_0 y0_0_1 y0_0_2 y0_0_3 y0_0_4 y0_0_5 y0_0_6 y0_0_7 y0_1_0 y0_1_1 y0_1_2 y0_1_3 y0_1_4 y0_1_5 y0_1_6 y0_1_7 y0_1_8 y0_1_9 y0_1_10 y0_1_11 y0f1 y0_2_0 y0_2_1 y0_2_2 y0_2_3 y0_2_4 y0_2_5 y0_2_6 y0_2_7 y0f2 y0_3_0 y0_3_1 y0_3_2 y0f3 q1 q2 q3 q4
  go_wp2_with fail
  refine hK.out _ _ (by simp [go_sem, World.cell?_alloc_past, *]) (fun hHeld => ?_)
  clear hK K
  try simp only [Act.put, sA, sB, sC]
  refine wpAnyH_ready (rs := [7]) (by kernel_rfl) (by simp) ?_
  refine AllReadyH.cons rfl (fun K hK => ?_) AllReadyH.nil
  go_simp
  go_wp2_with fail
  refine hK.out _ _ (by simp [go_sem, World.cell?_alloc_past, *]) (fun hHeld => ?_)
  clear hK K
  try simp only [Act.put, sA, sB, sC]
  refine wpAnyH_done (by kernel_rfl) ?_ _
  have y1_0_0 : (((p1w1.setCell ⟨tb, 0, none⟩ (.int .i64 399000)).setCell ⟨tb, 1, none⟩ (.int .i64 0)).setCell ⟨tb, 2, none⟩ (.int .i64 1501000)).cell? ⟨w.heap.size, 0, none⟩ = some (.int .i64 1) := by simp [go_sem, World.cell?_alloc_past, *]
  have y1_0_1 : (((p1w1.setCell ⟨tb, 0, none⟩ (.int .i64 399000)).setCell ⟨tb, 1, none⟩ (.int .i64 0)).setCell ⟨tb, 2, none⟩ (.int .i64 1501000)).cell? ⟨w.heap.size, 1, none⟩ = some (.int .i64 1) := by simp [go_sem, World.cell?_alloc_past, *]
  have y1_0_2 : (((p1w1.setCell ⟨tb, 0, none⟩ (.int .i64 399000)).setCell ⟨tb, 1, none⟩ (.int .i64 0)).setCell ⟨tb, 2, none⟩ (.int .i64 1501000)).cell? ⟨w.heap.size, 2, none⟩ = some (.string ⟨#[98, 97, 110, 107]⟩) := by simp [go_sem, World.cell?_alloc_past, *]
  have y1_0_3 : (((p1w1.setCell ⟨tb, 0, none⟩ (.int .i64 399000)).setCell ⟨tb, 1, none⟩ (.int .i64 0)).setCell ⟨tb, 2, none⟩ (.int .i64 1501000)).cell? ⟨w.heap.size, 3, none⟩ = some (.string ⟨#[115, 49, 50]⟩) := by simp [go_sem, World.cell?_alloc_past, *]
  have y1_0_4 : (((p1w1.setCell ⟨tb, 0, none⟩ (.int .i64 399000)).setCell ⟨tb, 1, none⟩ (.int .i64 0)).setCell ⟨tb, 2, none⟩ (.int .i64 1501000)).cell? ⟨w.heap.size, 4, none⟩ = some (.int .i64 0) := by simp [go_sem, World.cell?_alloc_past, *]
  have y1_0_5 : (((p1w1.setCell ⟨tb, 0, none⟩ (.int .i64 399000)).setCell ⟨tb, 1, none⟩ (.int .i64 0)).setCell ⟨tb, 2, none⟩ (.int .i64 1501000)).cell? ⟨w.heap.size, 5, none⟩ = some (.int .i64 0) := by simp [go_sem, World.cell?_alloc_past, *]
  have y1_0_6 : (((p1w1.setCell ⟨tb, 0, none⟩ (.int .i64 399000)).setCell ⟨tb, 1, none⟩ (.int .i64 0)).setCell ⟨tb, 2, none⟩ (.int .i64 1501000)).cell? ⟨w.heap.size, 6, none⟩ = some (.int .i64 1900000) := by simp [go_sem, World.cell?_alloc_past, *]
  have y1_0_7 : (((p1w1.setCell ⟨tb, 0, none⟩ (.int .i64 399000)).setCell ⟨tb, 1, none⟩ (.int .i64 0)).setCell ⟨tb, 2, none⟩ (.int .i64 1501000)).cell? ⟨w.heap.size, 7, none⟩ = some (.bool false) := by simp [go_sem, World.cell?_alloc_past, *]
  have y1_1_0 : (((p1w1.setCell ⟨tb, 0, none⟩ (.int .i64 399000)).setCell ⟨tb, 1, none⟩ (.int .i64 0)).setCell ⟨tb, 2, none⟩ (.int .i64 1501000)).cell? ⟨vb, 0, none⟩ = some (.string ⟨#[98, 97, 110, 107]⟩) := by simp [go_sem, World.cell?_alloc_past, *]
  have y1_1_1 : (((p1w1.setCell ⟨tb, 0, none⟩ (.int .i64 399000)).setCell ⟨tb, 1, none⟩ (.int .i64 0)).setCell ⟨tb, 2, none⟩ (.int .i64 1501000)).cell? ⟨vb, 1, none⟩ = some (.int .i64 50000) := by simp [go_sem, World.cell?_alloc_past, *]
  have y1_1_2 : (((p1w1.setCell ⟨tb, 0, none⟩ (.int .i64 399000)).setCell ⟨tb, 1, none⟩ (.int .i64 0)).setCell ⟨tb, 2, none⟩ (.int .i64 1501000)).cell? ⟨vb, 2, none⟩ = some (.int .i64 300000) := by simp [go_sem, World.cell?_alloc_past, *]
  have y1_1_3 : (((p1w1.setCell ⟨tb, 0, none⟩ (.int .i64 399000)).setCell ⟨tb, 1, none⟩ (.int .i64 0)).setCell ⟨tb, 2, none⟩ (.int .i64 1501000)).cell? ⟨vb, 3, none⟩ = some (.int .i64 2100000) := by simp [go_sem, World.cell?_alloc_past, *]
  have y1_1_4 : (((p1w1.setCell ⟨tb, 0, none⟩ (.int .i64 399000)).setCell ⟨tb, 1, none⟩ (.int .i64 0)).setCell ⟨tb, 2, none⟩ (.int .i64 1501000)).cell? ⟨vb, 4, none⟩ = some (.int .i64 0) := by simp [go_sem, World.cell?_alloc_past, *]
  have y1_1_5 : (((p1w1.setCell ⟨tb, 0, none⟩ (.int .i64 399000)).setCell ⟨tb, 1, none⟩ (.int .i64 0)).setCell ⟨tb, 2, none⟩ (.int .i64 1501000)).cell? ⟨vb, 5, none⟩ = some (.int .i64 7900000) := by simp [go_sem, World.cell?_alloc_past, *]
  have y1_1_6 : (((p1w1.setCell ⟨tb, 0, none⟩ (.int .i64 399000)).setCell ⟨tb, 1, none⟩ (.int .i64 0)).setCell ⟨tb, 2, none⟩ (.int .i64 1501000)).cell? ⟨vb, 6, none⟩ = some (.string ⟨#[115, 49, 50]⟩) := by simp [go_sem, World.cell?_alloc_past, *]
  have y1_1_7 : (((p1w1.setCell ⟨tb, 0, none⟩ (.int .i64 399000)).setCell ⟨tb, 1, none⟩ (.int .i64 0)).setCell ⟨tb, 2, none⟩ (.int .i64 1501000)).cell? ⟨vb, 7, none⟩ = some (.int .i64 12000) := by simp [go_sem, World.cell?_alloc_past, *]
  have y1_1_8 : (((p1w1.setCell ⟨tb, 0, none⟩ (.int .i64 399000)).setCell ⟨tb, 1, none⟩ (.int .i64 0)).setCell ⟨tb, 2, none⟩ (.int .i64 1501000)).cell? ⟨vb, 8, none⟩ = some (.int .i64 232000) := by simp [go_sem, World.cell?_alloc_past, *]
  have y1_1_9 : (((p1w1.setCell ⟨tb, 0, none⟩ (.int .i64 399000)).setCell ⟨tb, 1, none⟩ (.int .i64 0)).setCell ⟨tb, 2, none⟩ (.int .i64 1501000)).cell? ⟨vb, 9, none⟩ = some (.int .i64 0) := by simp [go_sem, World.cell?_alloc_past, *]
  have y1_1_10 : (((p1w1.setCell ⟨tb, 0, none⟩ (.int .i64 399000)).setCell ⟨tb, 1, none⟩ (.int .i64 0)).setCell ⟨tb, 2, none⟩ (.int .i64 1501000)).cell? ⟨vb, 10, none⟩ = some (.int .i64 0) := by simp [go_sem, World.cell?_alloc_past, *]
  have y1_1_11 : (((p1w1.setCell ⟨tb, 0, none⟩ (.int .i64 399000)).setCell ⟨tb, 1, none⟩ (.int .i64 0)).setCell ⟨tb, 2, none⟩ (.int .i64 1501000)).cell? ⟨vb, 11, none⟩ = some (.int .i64 0) := by simp [go_sem, World.cell?_alloc_past, *]
  have y1f1 : ∀ j, (((p1w1.setCell ⟨tb, 0, none⟩ (.int .i64 399000)).setCell ⟨tb, 1, none⟩ (.int .i64 0)).setCell ⟨tb, 2, none⟩ (.int .i64 1501000)).frozen? ⟨vb, j, none⟩ = false := fun j => by simp [go_sem, *]
  have y1_2_0 : (((p1w1.setCell ⟨tb, 0, none⟩ (.int .i64 399000)).setCell ⟨tb, 1, none⟩ (.int .i64 0)).setCell ⟨tb, 2, none⟩ (.int .i64 1501000)).cell? ⟨rb, 0, none⟩ = some (.slice (some ⟨vb, 0, none⟩) 2 cap) := by simp [go_sem, World.cell?_alloc_past, *]
  have y1_2_1 : (((p1w1.setCell ⟨tb, 0, none⟩ (.int .i64 399000)).setCell ⟨tb, 1, none⟩ (.int .i64 0)).setCell ⟨tb, 2, none⟩ (.int .i64 1501000)).cell? ⟨rb, 1, none⟩ = some (.int .i64 2100000) := by simp [go_sem, World.cell?_alloc_past, *]
  have y1_2_2 : (((p1w1.setCell ⟨tb, 0, none⟩ (.int .i64 399000)).setCell ⟨tb, 1, none⟩ (.int .i64 0)).setCell ⟨tb, 2, none⟩ (.int .i64 1501000)).cell? ⟨rb, 2, none⟩ = some (.int .i64 0) := by simp [go_sem, World.cell?_alloc_past, *]
  have y1_2_3 : (((p1w1.setCell ⟨tb, 0, none⟩ (.int .i64 399000)).setCell ⟨tb, 1, none⟩ (.int .i64 0)).setCell ⟨tb, 2, none⟩ (.int .i64 1501000)).cell? ⟨rb, 3, none⟩ = some (.int .i64 7900000) := by simp [go_sem, World.cell?_alloc_past, *]
  have y1_2_4 : (((p1w1.setCell ⟨tb, 0, none⟩ (.int .i64 399000)).setCell ⟨tb, 1, none⟩ (.int .i64 0)).setCell ⟨tb, 2, none⟩ (.int .i64 1501000)).cell? ⟨rb, 4, none⟩ = some (.int .i64 0) := by simp [go_sem, World.cell?_alloc_past, *]
  have y1_2_5 : (((p1w1.setCell ⟨tb, 0, none⟩ (.int .i64 399000)).setCell ⟨tb, 1, none⟩ (.int .i64 0)).setCell ⟨tb, 2, none⟩ (.int .i64 1501000)).cell? ⟨rb, 5, none⟩ = some (.int .i64 0) := by simp [go_sem, World.cell?_alloc_past, *]
  have y1_2_6 : (((p1w1.setCell ⟨tb, 0, none⟩ (.int .i64 399000)).setCell ⟨tb, 1, none⟩ (.int .i64 0)).setCell ⟨tb, 2, none⟩ (.int .i64 1501000)).cell? ⟨rb, 6, none⟩ = some (.int .i64 0) := by simp [go_sem, World.cell?_alloc_past, *]
  have y1_2_7 : (((p1w1.setCell ⟨tb, 0, none⟩ (.int .i64 399000)).setCell ⟨tb, 1, none⟩ (.int .i64 0)).setCell ⟨tb, 2, none⟩ (.int .i64 1501000)).cell? ⟨rb, 7, none⟩ = some (.int .i64 1) := by simp [go_sem, World.cell?_alloc_past, *]
  have y1f2 : ∀ j, (((p1w1.setCell ⟨tb, 0, none⟩ (.int .i64 399000)).setCell ⟨tb, 1, none⟩ (.int .i64 0)).setCell ⟨tb, 2, none⟩ (.int .i64 1501000)).frozen? ⟨rb, j, none⟩ = false := fun j => by simp [go_sem, *]
  have y1_3_0 : (((p1w1.setCell ⟨tb, 0, none⟩ (.int .i64 399000)).setCell ⟨tb, 1, none⟩ (.int .i64 0)).setCell ⟨tb, 2, none⟩ (.int .i64 1501000)).cell? ⟨tb, 0, none⟩ = some (.int .i64 399000) := by simp [go_sem, World.cell?_alloc_past, *]
  have y1_3_1 : (((p1w1.setCell ⟨tb, 0, none⟩ (.int .i64 399000)).setCell ⟨tb, 1, none⟩ (.int .i64 0)).setCell ⟨tb, 2, none⟩ (.int .i64 1501000)).cell? ⟨tb, 1, none⟩ = some (.int .i64 0) := by simp [go_sem, World.cell?_alloc_past, *]
  have y1_3_2 : (((p1w1.setCell ⟨tb, 0, none⟩ (.int .i64 399000)).setCell ⟨tb, 1, none⟩ (.int .i64 0)).setCell ⟨tb, 2, none⟩ (.int .i64 1501000)).cell? ⟨tb, 2, none⟩ = some (.int .i64 1501000) := by simp [go_sem, World.cell?_alloc_past, *]
  have y1f3 : ∀ j, (((p1w1.setCell ⟨tb, 0, none⟩ (.int .i64 399000)).setCell ⟨tb, 1, none⟩ (.int .i64 0)).setCell ⟨tb, 2, none⟩ (.int .i64 1501000)).frozen? ⟨tb, j, none⟩ = false := fun j => by simp [go_sem, *]
  have hzy1 : (((p1w1.setCell ⟨tb, 0, none⟩ (.int .i64 399000)).setCell ⟨tb, 1, none⟩ (.int .i64 0)).setCell ⟨tb, 2, none⟩ (.int .i64 1501000)).heap.size = p1w1.heap.size := by simp
  have hDy1 : BelowD rb vb w.heap.size w (((p1w1.setCell ⟨tb, 0, none⟩ (.int .i64 399000)).setCell ⟨tb, 1, none⟩ (.int .i64 0)).setCell ⟨tb, 2, none⟩ (.int .i64 1501000)) := (((hDy0.trans (BelowD.of hBp11 (by omega))).set tb 0 _ (Or.inr (Or.inr (by omega)))).set tb 1 _ (Or.inr (Or.inr (by omega)))).set tb 2 _ (Or.inr (Or.inr (by omega)))
  have zsy1 : y0.heap.size ≤ (((p1w1.setCell ⟨tb, 0, none⟩ (.int .i64 399000)).setCell ⟨tb, 1, none⟩ (.int .i64 0)).setCell ⟨tb, 2, none⟩ (.int .i64 1501000)).heap.size := by rw [hzy1]; exact hBp11.size
  clear p11_0_0 p11_0_1 p11_0_2 p11_0_3 p11_0_4 p11_0_5 p11_0_6 p11_0_7 p11_1_0 p11_1_1 p11_1_2 p11_1_3 p11_1_4 p11_1_5 p11_1_6 p11_1_7 p11_1_8 p11_1_9 p11_1_10 p11_1_11 p11_2_0 p11_2_1 p11_2_2 p11_2_3 p11_2_4 p11_2_5 p11_2_6 p11_2_7 p11_3_0 p11_3_1 p11_3_2 p11f1 p11f2 p11f3 p11o0 p11n0 p11o1 p11n1 p11o2 p11n2 p11o3 p11n3 hBp11
  generalize hWy1 : ((p1w1.setCell ⟨tb, 0, none⟩ (.int .i64 399000)).setCell ⟨tb, 1, none⟩ (.int .i64 0)).setCell ⟨tb, 2, none⟩ (.int .i64 1501000) = y1 at *
  clear hWy1
  have q1y1 : w.heap.size < y1.heap.size := by omega
  have q2y1 : vb < y1.heap.size := by omega
  have q3y1 : rb < y1.heap.size := by omega
  have q4y1 : tb < y1.heap.size := by omega
  go_upto_region 11 with (fail)
  refine wp_region_Z (S := (fun w' => w'.cell? ⟨vb, 3, none⟩ = some (.int .i64 2100000) ∧ w'.cell? ⟨vb, 4, none⟩ = some (.int .i64 0) ∧ w'.cell? ⟨vb, 5, none⟩ = some (.int .i64 7900000) ∧ w'.cell? ⟨tb, 0, none⟩ = some (.int .i64 399000) ∧ w'.cell? ⟨tb, 1, none⟩ = some (.int .i64 0) ∧ w'.cell? ⟨tb, 2, none⟩ = some (.int .i64 1501000))) 9 (by kernel_rfl) (by kernel_rfl) (by kernel_rfl) (by simp [go_sem, World.cell?_alloc_past, *]) (fun hHeld => ?_)
  refine wpAnyZ_take (i := 0) (oi := ⟨some 46, _, _, _, _, _⟩) (v := ?_) (by kernel_rfl) (by kernel_rfl) rfl rfl (by kernel_rfl) (by kernel_rfl) (by kernel_rfl) (fun _ _ _ h => h) (Or.inl ⟨by kernel_rfl, ?_⟩) (by assumption) ?_
  rotate_left
  · (intro w hSw; (try dsimp only at hSw); go_simp; all_goals with_reducible rfl)
  try simp only [Act.put, List.setIfInBounds_toArray, List.set_cons_zero, List.set_cons_succ]
  refine wpAnyZ_take (i := 1) (oi := ⟨some 47, _, _, _, _, _⟩) (v := ?_) (by kernel_rfl) (by kernel_rfl) rfl rfl (by kernel_rfl) (by kernel_rfl) (by kernel_rfl) (fun _ _ _ h => h) (Or.inl ⟨by kernel_rfl, ?_⟩) (by assumption) ?_
  rotate_left
  · (intro w hSw; (try dsimp only at hSw); go_simp; all_goals with_reducible rfl)
  try simp only [Act.put, List.setIfInBounds_toArray, List.set_cons_zero, List.set_cons_succ]
  refine wpAnyZ_take (i := 2) (oi := ⟨some 48, _, _, _, _, _⟩) (v := ?_) (by kernel_rfl) (by kernel_rfl) rfl rfl (by kernel_rfl) (by kernel_rfl) (by kernel_rfl) (fun _ _ _ h => h) (Or.inl ⟨by kernel_rfl, ?_⟩) (by assumption) ?_
  rotate_left
  · (intro w hSw; (try dsimp only at hSw); go_simp; all_goals with_reducible rfl)
  try simp only [Act.put, List.setIfInBounds_toArray, List.set_cons_zero, List.set_cons_succ]
  refine wpAnyZ_take (i := 3) (oi := ⟨some 49, _, _, _, _, _⟩) (v := ?_) (by kernel_rfl) (by kernel_rfl) rfl rfl (by kernel_rfl) (by kernel_rfl) (by kernel_rfl) (fun _ _ _ h => h) (Or.inl ⟨by kernel_rfl, ?_⟩) (by assumption) ?_
  rotate_left
  · (intro w hSw; (try dsimp only at hSw); go_simp; all_goals with_reducible rfl)
  try simp only [Act.put, List.setIfInBounds_toArray, List.set_cons_zero, List.set_cons_succ]
  refine wpAnyZ_take (i := 4) (oi := ⟨some 50, _, _, _, _, _⟩) (v := ?_) (by kernel_rfl) (by kernel_rfl) rfl rfl (by kernel_rfl) (by kernel_rfl) (by kernel_rfl) (fun _ _ _ h => h) (Or.inl ⟨by kernel_rfl, ?_⟩) (by assumption) ?_
  rotate_left
  · (intro w hSw; (try dsimp only at hSw); go_simp; all_goals with_reducible rfl)
  try simp only [Act.put, List.setIfInBounds_toArray, List.set_cons_zero, List.set_cons_succ]
  refine wpAnyZ_take (i := 5) (oi := ⟨some 51, _, _, _, _, _⟩) (v := ?_) (by kernel_rfl) (by kernel_rfl) rfl rfl (by kernel_rfl) (by kernel_rfl) (by kernel_rfl) (fun _ _ _ h => h) (Or.inl ⟨by kernel_rfl, ?_⟩) (by assumption) ?_
  rotate_left
  · (intro w hSw; (try dsimp only at hSw); go_simp; all_goals with_reducible rfl)
  try simp only [Act.put, List.setIfInBounds_toArray, List.set_cons_zero, List.set_cons_succ]
  refine wpAnyZ_call (q := 6) (by kernel_rfl) rfl rfl (fun K hK => ?_)
  go_simp
  refine (without_any 2100000 0 7900000 399000 0 1501000 1701000 0 6399000 _ (by omega) (by omega) (by omega) (by omega) (by omega) (by omega) (by omega) (by omega) (by omega) (by omega) (by omega) (by omega) (Lib.hid (by decide))).mono ?_
  rintro e p2w1 ⟨rfl, hbp21⟩
  have zp21 := hbp21.size
  try simp at zp21
  obtain ⟨p21_0_0, p21_0_1, p21_0_2, p21_0_3, p21_0_4, p21_0_5, p21_0_6, p21_0_7, p21_1_0, p21_1_1, p21_1_2, p21_1_3, p21_1_4, p21_1_5, p21_1_6, p21_1_7, p21_1_8, p21_1_9, p21_1_10, p21_1_11, p21_2_0, p21_2_1, p21_2_2, p21_2_3, p21_2_4, p21_2_5, p21_2_6, p21_2_7, p21_3_0, p21_3_1, p21_3_2⟩ : p2w1.cell? ⟨w.heap.size, 0, none⟩ = some (.int .i64 1) ∧ p2w1.cell? ⟨w.heap.size, 1, none⟩ = some (.int .i64 1) ∧ p2w1.cell? ⟨w.heap.size, 2, none⟩ = some (.string ⟨#[98, 97, 110, 107]⟩) ∧ p2w1.cell? ⟨w.heap.size, 3, none⟩ = some (.string ⟨#[115, 49, 50]⟩) ∧ p2w1.cell? ⟨w.heap.size, 4, none⟩ = some (.int .i64 0) ∧ p2w1.cell? ⟨w.heap.size, 5, none⟩ = some (.int .i64 0) ∧ p2w1.cell? ⟨w.heap.size, 6, none⟩ = some (.int .i64 1900000) ∧ p2w1.cell? ⟨w.heap.size, 7, none⟩ = some (.bool false) ∧ p2w1.cell? ⟨vb, 0, none⟩ = some (.string ⟨#[98, 97, 110, 107]⟩) ∧ p2w1.cell? ⟨vb, 1, none⟩ = some (.int .i64 50000) ∧ p2w1.cell? ⟨vb, 2, none⟩ = some (.int .i64 300000) ∧ p2w1.cell? ⟨vb, 3, none⟩ = some (.int .i64 2100000) ∧ p2w1.cell? ⟨vb, 4, none⟩ = some (.int .i64 0) ∧ p2w1.cell? ⟨vb, 5, none⟩ = some (.int .i64 7900000) ∧ p2w1.cell? ⟨vb, 6, none⟩ = some (.string ⟨#[115, 49, 50]⟩) ∧ p2w1.cell? ⟨vb, 7, none⟩ = some (.int .i64 12000) ∧ p2w1.cell? ⟨vb, 8, none⟩ = some (.int .i64 232000) ∧ p2w1.cell? ⟨vb, 9, none⟩ = some (.int .i64 0) ∧ p2w1.cell? ⟨vb, 10, none⟩ = some (.int .i64 0) ∧ p2w1.cell? ⟨vb, 11, none⟩ = some (.int .i64 0) ∧ p2w1.cell? ⟨rb, 0, none⟩ = some (.slice (some ⟨vb, 0, none⟩) 2 cap) ∧ p2w1.cell? ⟨rb, 1, none⟩ = some (.int .i64 2100000) ∧ p2w1.cell? ⟨rb, 2, none⟩ = some (.int .i64 0) ∧ p2w1.cell? ⟨rb, 3, none⟩ = some (.int .i64 7900000) ∧ p2w1.cell? ⟨rb, 4, none⟩ = some (.int .i64 0) ∧ p2w1.cell? ⟨rb, 5, none⟩ = some (.int .i64 0) ∧ p2w1.cell? ⟨rb, 6, none⟩ = some (.int .i64 0) ∧ p2w1.cell? ⟨rb, 7, none⟩ = some (.int .i64 1) ∧ p2w1.cell? ⟨tb, 0, none⟩ = some (.int .i64 399000) ∧ p2w1.cell? ⟨tb, 1, none⟩ = some (.int .i64 0) ∧ p2w1.cell? ⟨tb, 2, none⟩ = some (.int .i64 1501000) := by refine ⟨?_, ?_, ?_, ?_, ?_, ?_, ?_, ?_, ?_, ?_, ?_, ?_, ?_, ?_, ?_, ?_, ?_, ?_, ?_, ?_, ?_, ?_, ?_, ?_, ?_, ?_, ?_, ?_, ?_, ?_, ?_⟩ <;> (rw [(bcell hbp21).1 _ _ (by first | (simp; done) | (simp; omega) | omega)]; simp [go_sem, World.cell?_alloc_past, *])
  obtain ⟨p21f1, p21f2, p21f3⟩ : (∀ j, p2w1.frozen? ⟨vb, j, none⟩ = false) ∧ (∀ j, p2w1.frozen? ⟨rb, j, none⟩ = false) ∧ (∀ j, p2w1.frozen? ⟨tb, j, none⟩ = false) := by refine ⟨?_, ?_, ?_⟩ <;> (intro j; rw [(bcell hbp21).2 _ _ (by first | (simp; done) | (simp; omega) | omega)]; simp [go_sem, *])
  obtain ⟨p21o0, p21n0, p21o1, p21n1, p21o2, p21n2, p21o3, p21n3⟩ : w.heap.size < p2w1.heap.size ∧ p2w1.heap.size ≠ w.heap.size ∧ vb < p2w1.heap.size ∧ p2w1.heap.size ≠ vb ∧ rb < p2w1.heap.size ∧ p2w1.heap.size ≠ rb ∧ tb < p2w1.heap.size ∧ p2w1.heap.size ≠ tb := by refine ⟨?_, ?_, ?_, ?_, ?_, ?_, ?_, ?_⟩ <;> omega
  have hBp21 : Below y1.heap.size y1 p2w1 := (by (repeat (first | (with_reducible refine Below.drew ?_) | (with_reducible refine below_drewN ?_ _) | (with_reducible refine Below.alloc ?_ (by first | omega | (simp; done) | (simp; omega) | (simp at *; omega)) _) | (with_reducible refine Below.setCell ?_ (by first | omega | (simp; done) | (simp; omega) | (simp at *; omega)) _) | (with_reducible exact Below.refl _ _) | (with_reducible assumption) | (with_reducible refine Below.trans ?_ (Below.mono (by assumption) (by first | omega | (simp; done) | (simp; omega) | (simp at *; omega)))))))
  clear hbp21 y1_0_0 y1_0_1 y1_0_2 y1_0_3 y1_0_4 y1_0_5 y1_0_6 y1_0_7 y1_1_0 y1_1_1 y1_1_2 y1_1_3 y1_1_4 y1_1_5 y1_1_6 y1_1_7 y1_1_8 y1_1_9 y1_1_10 y1_1_11 y1f1 y1_2_0 y1_2_1 y1_2_2 y1_2_3 y1_2_4 y1_2_5 y1_2_6 y1_2_7 y1f2 y1_3_0 y1_3_1 y1_3_2 y1f3 q1y1 q2y1 q3y1 q4y1
  go_wp2_with fail
  refine hK.out _ _ (by simp [go_sem, World.cell?_alloc_past, *]) (fun hHeld => ?_)
  clear hK K
  try simp only [Act.put, List.setIfInBounds_toArray, List.set_cons_zero, List.set_cons_succ]
  refine wpAnyZ_take (i := 7) (oi := ⟨some 53, _, _, _, _, _⟩) (v := ?_) (by kernel_rfl) (by kernel_rfl) rfl rfl (by kernel_rfl) (by kernel_rfl) (by kernel_rfl) (fun _ _ _ h => h) (Or.inl ⟨by kernel_rfl, ?_⟩) (by assumption) ?_
  rotate_left
  · (intro w hSw; (try dsimp only at hSw); go_simp; all_goals with_reducible rfl)
  try simp only [Act.put, List.setIfInBounds_toArray, List.set_cons_zero, List.set_cons_succ]
  refine wpAnyZ_take (i := 8) (oi := ⟨some 54, _, _, _, _, _⟩) (v := ?_) (by kernel_rfl) (by kernel_rfl) rfl rfl (by kernel_rfl) (by kernel_rfl) (by kernel_rfl) (fun _ _ _ h => h) (Or.inl ⟨by kernel_rfl, ?_⟩) (by assumption) ?_
  rotate_left
  · (intro w hSw; (try dsimp only at hSw); go_simp; all_goals with_reducible rfl)
  try simp only [Act.put, List.setIfInBounds_toArray, List.set_cons_zero, List.set_cons_succ]
  refine wpAnyZ_last (by kernel_rfl) rfl (fun K hK => ?_)
  go_simp
  go_wp2_with fail
  refine hK.out _ _ ?_
  clear hK K
  try simp only [Act.put, List.setIfInBounds_toArray, List.set_cons_zero, List.set_cons_succ]
  have y2_0_0 : (((p2w1.setCell ⟨vb, 3, none⟩ (.int .i64 1701000)).setCell ⟨vb, 4, none⟩ (.int .i64 0)).setCell ⟨vb, 5, none⟩ (.int .i64 6399000)).cell? ⟨w.heap.size, 0, none⟩ = some (.int .i64 1) := by simp [go_sem, World.cell?_alloc_past, *]
  have y2_0_1 : (((p2w1.setCell ⟨vb, 3, none⟩ (.int .i64 1701000)).setCell ⟨vb, 4, none⟩ (.int .i64 0)).setCell ⟨vb, 5, none⟩ (.int .i64 6399000)).cell? ⟨w.heap.size, 1, none⟩ = some (.int .i64 1) := by simp [go_sem, World.cell?_alloc_past, *]
  have y2_0_2 : (((p2w1.setCell ⟨vb, 3, none⟩ (.int .i64 1701000)).setCell ⟨vb, 4, none⟩ (.int .i64 0)).setCell ⟨vb, 5, none⟩ (.int .i64 6399000)).cell? ⟨w.heap.size, 2, none⟩ = some (.string ⟨#[98, 97, 110, 107]⟩) := by simp [go_sem, World.cell?_alloc_past, *]
  have y2_0_3 : (((p2w1.setCell ⟨vb, 3, none⟩ (.int .i64 1701000)).setCell ⟨vb, 4, none⟩ (.int .i64 0)).setCell ⟨vb, 5, none⟩ (.int .i64 6399000)).cell? ⟨w.heap.size, 3, none⟩ = some (.string ⟨#[115, 49, 50]⟩) := by simp [go_sem, World.cell?_alloc_past, *]
  have y2_0_4 : (((p2w1.setCell ⟨vb, 3, none⟩ (.int .i64 1701000)).setCell ⟨vb, 4, none⟩ (.int .i64 0)).setCell ⟨vb, 5, none⟩ (.int .i64 6399000)).cell? ⟨w.heap.size, 4, none⟩ = some (.int .i64 0) := by simp [go_sem, World.cell?_alloc_past, *]
  have y2_0_5 : (((p2w1.setCell ⟨vb, 3, none⟩ (.int .i64 1701000)).setCell ⟨vb, 4, none⟩ (.int .i64 0)).setCell ⟨vb, 5, none⟩ (.int .i64 6399000)).cell? ⟨w.heap.size, 5, none⟩ = some (.int .i64 0) := by simp [go_sem, World.cell?_alloc_past, *]
  have y2_0_6 : (((p2w1.setCell ⟨vb, 3, none⟩ (.int .i64 1701000)).setCell ⟨vb, 4, none⟩ (.int .i64 0)).setCell ⟨vb, 5, none⟩ (.int .i64 6399000)).cell? ⟨w.heap.size, 6, none⟩ = some (.int .i64 1900000) := by simp [go_sem, World.cell?_alloc_past, *]
  have y2_0_7 : (((p2w1.setCell ⟨vb, 3, none⟩ (.int .i64 1701000)).setCell ⟨vb, 4, none⟩ (.int .i64 0)).setCell ⟨vb, 5, none⟩ (.int .i64 6399000)).cell? ⟨w.heap.size, 7, none⟩ = some (.bool false) := by simp [go_sem, World.cell?_alloc_past, *]
  have y2_1_0 : (((p2w1.setCell ⟨vb, 3, none⟩ (.int .i64 1701000)).setCell ⟨vb, 4, none⟩ (.int .i64 0)).setCell ⟨vb, 5, none⟩ (.int .i64 6399000)).cell? ⟨vb, 0, none⟩ = some (.string ⟨#[98, 97, 110, 107]⟩) := by simp [go_sem, World.cell?_alloc_past, *]
  have y2_1_1 : (((p2w1.setCell ⟨vb, 3, none⟩ (.int .i64 1701000)).setCell ⟨vb, 4, none⟩ (.int .i64 0)).setCell ⟨vb, 5, none⟩ (.int .i64 6399000)).cell? ⟨vb, 1, none⟩ = some (.int .i64 50000) := by simp [go_sem, World.cell?_alloc_past, *]
  have y2_1_2 : (((p2w1.setCell ⟨vb, 3, none⟩ (.int .i64 1701000)).setCell ⟨vb, 4, none⟩ (.int .i64 0)).setCell ⟨vb, 5, none⟩ (.int .i64 6399000)).cell? ⟨vb, 2, none⟩ = some (.int .i64 300000) := by simp [go_sem, World.cell?_alloc_past, *]
  have y2_1_3 : (((p2w1.setCell ⟨vb, 3, none⟩ (.int .i64 1701000)).setCell ⟨vb, 4, none⟩ (.int .i64 0)).setCell ⟨vb, 5, none⟩ (.int .i64 6399000)).cell? ⟨vb, 3, none⟩ = some (.int .i64 1701000) := by simp [go_sem, World.cell?_alloc_past, *]
  have y2_1_4 : (((p2w1.setCell ⟨vb, 3, none⟩ (.int .i64 1701000)).setCell ⟨vb, 4, none⟩ (.int .i64 0)).setCell ⟨vb, 5, none⟩ (.int .i64 6399000)).cell? ⟨vb, 4, none⟩ = some (.int .i64 0) := by simp [go_sem, World.cell?_alloc_past, *]
  have y2_1_5 : (((p2w1.setCell ⟨vb, 3, none⟩ (.int .i64 1701000)).setCell ⟨vb, 4, none⟩ (.int .i64 0)).setCell ⟨vb, 5, none⟩ (.int .i64 6399000)).cell? ⟨vb, 5, none⟩ = some (.int .i64 6399000) := by simp [go_sem, World.cell?_alloc_past, *]
  have y2_1_6 : (((p2w1.setCell ⟨vb, 3, none⟩ (.int .i64 1701000)).setCell ⟨vb, 4, none⟩ (.int .i64 0)).setCell ⟨vb, 5, none⟩ (.int .i64 6399000)).cell? ⟨vb, 6, none⟩ = some (.string ⟨#[115, 49, 50]⟩) := by simp [go_sem, World.cell?_alloc_past, *]
  have y2_1_7 : (((p2w1.setCell ⟨vb, 3, none⟩ (.int .i64 1701000)).setCell ⟨vb, 4, none⟩ (.int .i64 0)).setCell ⟨vb, 5, none⟩ (.int .i64 6399000)).cell? ⟨vb, 7, none⟩ = some (.int .i64 12000) := by simp [go_sem, World.cell?_alloc_past, *]
  have y2_1_8 : (((p2w1.setCell ⟨vb, 3, none⟩ (.int .i64 1701000)).setCell ⟨vb, 4, none⟩ (.int .i64 0)).setCell ⟨vb, 5, none⟩ (.int .i64 6399000)).cell? ⟨vb, 8, none⟩ = some (.int .i64 232000) := by simp [go_sem, World.cell?_alloc_past, *]
  have y2_1_9 : (((p2w1.setCell ⟨vb, 3, none⟩ (.int .i64 1701000)).setCell ⟨vb, 4, none⟩ (.int .i64 0)).setCell ⟨vb, 5, none⟩ (.int .i64 6399000)).cell? ⟨vb, 9, none⟩ = some (.int .i64 0) := by simp [go_sem, World.cell?_alloc_past, *]
  have y2_1_10 : (((p2w1.setCell ⟨vb, 3, none⟩ (.int .i64 1701000)).setCell ⟨vb, 4, none⟩ (.int .i64 0)).setCell ⟨vb, 5, none⟩ (.int .i64 6399000)).cell? ⟨vb, 10, none⟩ = some (.int .i64 0) := by simp [go_sem, World.cell?_alloc_past, *]
  have y2_1_11 : (((p2w1.setCell ⟨vb, 3, none⟩ (.int .i64 1701000)).setCell ⟨vb, 4, none⟩ (.int .i64 0)).setCell ⟨vb, 5, none⟩ (.int .i64 6399000)).cell? ⟨vb, 11, none⟩ = some (.int .i64 0) := by simp [go_sem, World.cell?_alloc_past, *]
  have y2f1 : ∀ j, (((p2w1.setCell ⟨vb, 3, none⟩ (.int .i64 1701000)).setCell ⟨vb, 4, none⟩ (.int .i64 0)).setCell ⟨vb, 5, none⟩ (.int .i64 6399000)).frozen? ⟨vb, j, none⟩ = false := fun j => by simp [go_sem, *]
  have y2_2_0 : (((p2w1.setCell ⟨vb, 3, none⟩ (.int .i64 1701000)).setCell ⟨vb, 4, none⟩ (.int .i64 0)).setCell ⟨vb, 5, none⟩ (.int .i64 6399000)).cell? ⟨rb, 0, none⟩ = some (.slice (some ⟨vb, 0, none⟩) 2 cap) := by simp [go_sem, World.cell?_alloc_past, *]
  have y2_2_1 : (((p2w1.setCell ⟨vb, 3, none⟩ (.int .i64 1701000)).setCell ⟨vb, 4, none⟩ (.int .i64 0)).setCell ⟨vb, 5, none⟩ (.int .i64 6399000)).cell? ⟨rb, 1, none⟩ = some (.int .i64 2100000) := by simp [go_sem, World.cell?_alloc_past, *]
  have y2_2_2 : (((p2w1.setCell ⟨vb, 3, none⟩ (.int .i64 1701000)).setCell ⟨vb, 4, none⟩ (.int .i64 0)).setCell ⟨vb, 5, none⟩ (.int .i64 6399000)).cell? ⟨rb, 2, none⟩ = some (.int .i64 0) := by simp [go_sem, World.cell?_alloc_past, *]
  have y2_2_3 : (((p2w1.setCell ⟨vb, 3, none⟩ (.int .i64 1701000)).setCell ⟨vb, 4, none⟩ (.int .i64 0)).setCell ⟨vb, 5, none⟩ (.int .i64 6399000)).cell? ⟨rb, 3, none⟩ = some (.int .i64 7900000) := by simp [go_sem, World.cell?_alloc_past, *]
  have y2_2_4 : (((p2w1.setCell ⟨vb, 3, none⟩ (.int .i64 1701000)).setCell ⟨vb, 4, none⟩ (.int .i64 0)).setCell ⟨vb, 5, none⟩ (.int .i64 6399000)).cell? ⟨rb, 4, none⟩ = some (.int .i64 0) := by simp [go_sem, World.cell?_alloc_past, *]
  have y2_2_5 : (((p2w1.setCell ⟨vb, 3, none⟩ (.int .i64 1701000)).setCell ⟨vb, 4, none⟩ (.int .i64 0)).setCell ⟨vb, 5, none⟩ (.int .i64 6399000)).cell? ⟨rb, 5, none⟩ = some (.int .i64 0) := by simp [go_sem, World.cell?_alloc_past, *]
  have y2_2_6 : (((p2w1.setCell ⟨vb, 3, none⟩ (.int .i64 1701000)).setCell ⟨vb, 4, none⟩ (.int .i64 0)).setCell ⟨vb, 5, none⟩ (.int .i64 6399000)).cell? ⟨rb, 6, none⟩ = some (.int .i64 0) := by simp [go_sem, World.cell?_alloc_past, *]
  have y2_2_7 : (((p2w1.setCell ⟨vb, 3, none⟩ (.int .i64 1701000)).setCell ⟨vb, 4, none⟩ (.int .i64 0)).setCell ⟨vb, 5, none⟩ (.int .i64 6399000)).cell? ⟨rb, 7, none⟩ = some (.int .i64 1) := by simp [go_sem, World.cell?_alloc_past, *]
  have y2f2 : ∀ j, (((p2w1.setCell ⟨vb, 3, none⟩ (.int .i64 1701000)).setCell ⟨vb, 4, none⟩ (.int .i64 0)).setCell ⟨vb, 5, none⟩ (.int .i64 6399000)).frozen? ⟨rb, j, none⟩ = false := fun j => by simp [go_sem, *]
  have y2_3_0 : (((p2w1.setCell ⟨vb, 3, none⟩ (.int .i64 1701000)).setCell ⟨vb, 4, none⟩ (.int .i64 0)).setCell ⟨vb, 5, none⟩ (.int .i64 6399000)).cell? ⟨tb, 0, none⟩ = some (.int .i64 399000) := by simp [go_sem, World.cell?_alloc_past, *]
  have y2_3_1 : (((p2w1.setCell ⟨vb, 3, none⟩ (.int .i64 1701000)).setCell ⟨vb, 4, none⟩ (.int .i64 0)).setCell ⟨vb, 5, none⟩ (.int .i64 6399000)).cell? ⟨tb, 1, none⟩ = some (.int .i64 0) := by simp [go_sem, World.cell?_alloc_past, *]
  have y2_3_2 : (((p2w1.setCell ⟨vb, 3, none⟩ (.int .i64 1701000)).setCell ⟨vb, 4, none⟩ (.int .i64 0)).setCell ⟨vb, 5, none⟩ (.int .i64 6399000)).cell? ⟨tb, 2, none⟩ = some (.int .i64 1501000) := by simp [go_sem, World.cell?_alloc_past, *]
  have y2f3 : ∀ j, (((p2w1.setCell ⟨vb, 3, none⟩ (.int .i64 1701000)).setCell ⟨vb, 4, none⟩ (.int .i64 0)).setCell ⟨vb, 5, none⟩ (.int .i64 6399000)).frozen? ⟨tb, j, none⟩ = false := fun j => by simp [go_sem, *]
  have hzy2 : (((p2w1.setCell ⟨vb, 3, none⟩ (.int .i64 1701000)).setCell ⟨vb, 4, none⟩ (.int .i64 0)).setCell ⟨vb, 5, none⟩ (.int .i64 6399000)).heap.size = p2w1.heap.size := by simp
  have hDy2 : BelowD rb vb w.heap.size w (((p2w1.setCell ⟨vb, 3, none⟩ (.int .i64 1701000)).setCell ⟨vb, 4, none⟩ (.int .i64 0)).setCell ⟨vb, 5, none⟩ (.int .i64 6399000)) := (((hDy1.trans (BelowD.of hBp21 (by omega))).set vb 3 _ (Or.inr (Or.inl rfl))).set vb 4 _ (Or.inr (Or.inl rfl))).set vb 5 _ (Or.inr (Or.inl rfl))
  have zsy2 : y1.heap.size ≤ (((p2w1.setCell ⟨vb, 3, none⟩ (.int .i64 1701000)).setCell ⟨vb, 4, none⟩ (.int .i64 0)).setCell ⟨vb, 5, none⟩ (.int .i64 6399000)).heap.size := by rw [hzy2]; exact hBp21.size
  clear p21_0_0 p21_0_1 p21_0_2 p21_0_3 p21_0_4 p21_0_5 p21_0_6 p21_0_7 p21_1_0 p21_1_1 p21_1_2 p21_1_3 p21_1_4 p21_1_5 p21_1_6 p21_1_7 p21_1_8 p21_1_9 p21_1_10 p21_1_11 p21_2_0 p21_2_1 p21_2_2 p21_2_3 p21_2_4 p21_2_5 p21_2_6 p21_2_7 p21_3_0 p21_3_1 p21_3_2 p21f1 p21f2 p21f3 p21o0 p21n0 p21o1 p21n1 p21o2 p21n2 p21o3 p21n3 hBp21
  generalize hWy2 : ((p2w1.setCell ⟨vb, 3, none⟩ (.int .i64 1701000)).setCell ⟨vb, 4, none⟩ (.int .i64 0)).setCell ⟨vb, 5, none⟩ (.int .i64 6399000) = y2 at *
  clear hWy2
  have q1y2 : w.heap.size < y2.heap.size := by omega
  have q2y2 : vb < y2.heap.size := by omega
  have q3y2 : rb < y2.heap.size := by omega
  have q4y2 : tb < y2.heap.size := by omega
  go_upto_region 14 with (fail)
  refine wp_region_Z (S := (fun w' => w'.cell? ⟨vb, 9, none⟩ = some (.int .i64 0) ∧ w'.cell? ⟨vb, 10, none⟩ = some (.int .i64 0) ∧ w'.cell? ⟨vb, 11, none⟩ = some (.int .i64 0) ∧ w'.cell? ⟨tb, 0, none⟩ = some (.int .i64 399000) ∧ w'.cell? ⟨tb, 1, none⟩ = some (.int .i64 0) ∧ w'.cell? ⟨tb, 2, none⟩ = some (.int .i64 1501000))) 9 (by kernel_rfl) (by kernel_rfl) (by kernel_rfl) (by simp [go_sem, World.cell?_alloc_past, *]) (fun hHeld => ?_)
  refine wpAnyZ_take (i := 0) (oi := ⟨some 68, _, _, _, _, _⟩) (v := ?_) (by kernel_rfl) (by kernel_rfl) rfl rfl (by kernel_rfl) (by kernel_rfl) (by kernel_rfl) (fun _ _ _ h => h) (Or.inl ⟨by kernel_rfl, ?_⟩) (by assumption) ?_
  rotate_left
  · (intro w hSw; (try dsimp only at hSw); go_simp; all_goals with_reducible rfl)
  try simp only [Act.put, List.setIfInBounds_toArray, List.set_cons_zero, List.set_cons_succ]
  refine wpAnyZ_take (i := 1) (oi := ⟨some 69, _, _, _, _, _⟩) (v := ?_) (by kernel_rfl) (by kernel_rfl) rfl rfl (by kernel_rfl) (by kernel_rfl) (by kernel_rfl) (fun _ _ _ h => h) (Or.inl ⟨by kernel_rfl, ?_⟩) (by assumption) ?_
  rotate_left
  · (intro w hSw; (try dsimp only at hSw); go_simp; all_goals with_reducible rfl)
  try simp only [Act.put, List.setIfInBounds_toArray, List.set_cons_zero, List.set_cons_succ]
  refine wpAnyZ_take (i := 2) (oi := ⟨some 70, _, _, _, _, _⟩) (v := ?_) (by kernel_rfl) (by kernel_rfl) rfl rfl (by kernel_rfl) (by kernel_rfl) (by kernel_rfl) (fun _ _ _ h => h) (Or.inl ⟨by kernel_rfl, ?_⟩) (by assumption) ?_
  rotate_left
  · (intro w hSw; (try dsimp only at hSw); go_simp; all_goals with_reducible rfl)
  try simp only [Act.put, List.setIfInBounds_toArray, List.set_cons_zero, List.set_cons_succ]
  refine wpAnyZ_take (i := 3) (oi := ⟨some 71, _, _, _, _, _⟩) (v := ?_) (by kernel_rfl) (by kernel_rfl) rfl rfl (by kernel_rfl) (by kernel_rfl) (by kernel_rfl) (fun _ _ _ h => h) (Or.inl ⟨by kernel_rfl, ?_⟩) (by assumption) ?_
  rotate_left
  · (intro w hSw; (try dsimp only at hSw); go_simp; all_goals with_reducible rfl)
  try simp only [Act.put, List.setIfInBounds_toArray, List.set_cons_zero, List.set_cons_succ]
  refine wpAnyZ_take (i := 4) (oi := ⟨some 72, _, _, _, _, _⟩) (v := ?_) (by kernel_rfl) (by kernel_rfl) rfl rfl (by kernel_rfl) (by kernel_rfl) (by kernel_rfl) (fun _ _ _ h => h) (Or.inl ⟨by kernel_rfl, ?_⟩) (by assumption) ?_
  rotate_left
  · (intro w hSw; (try dsimp only at hSw); go_simp; all_goals with_reducible rfl)
  try simp only [Act.put, List.setIfInBounds_toArray, List.set_cons_zero, List.set_cons_succ]
  refine wpAnyZ_take (i := 5) (oi := ⟨some 73, _, _, _, _, _⟩) (v := ?_) (by kernel_rfl) (by kernel_rfl) rfl rfl (by kernel_rfl) (by kernel_rfl) (by kernel_rfl) (fun _ _ _ h => h) (Or.inl ⟨by kernel_rfl, ?_⟩) (by assumption) ?_
  rotate_left
  · (intro w hSw; (try dsimp only at hSw); go_simp; all_goals with_reducible rfl)
  try simp only [Act.put, List.setIfInBounds_toArray, List.set_cons_zero, List.set_cons_succ]
  refine wpAnyZ_call (q := 6) (by kernel_rfl) rfl rfl (fun K hK => ?_)
  go_simp
  refine (plus_any 0 0 0 399000 0 1501000 399000 0 1501000 _ (by omega) (by omega) (by omega) (by omega) (by omega) (by omega) (by omega) (by omega) (by omega) (by omega) (by omega) (by omega) (Lib.hid (by decide))).mono ?_
  rintro e p3w1 ⟨rfl, hbp31⟩
  have zp31 := hbp31.size
  try simp at zp31
  obtain ⟨p31_0_0, p31_0_1, p31_0_2, p31_0_3, p31_0_4, p31_0_5, p31_0_6, p31_0_7, p31_1_0, p31_1_1, p31_1_2, p31_1_3, p31_1_4, p31_1_5, p31_1_6, p31_1_7, p31_1_8, p31_1_9, p31_1_10, p31_1_11, p31_2_0, p31_2_1, p31_2_2, p31_2_3, p31_2_4, p31_2_5, p31_2_6, p31_2_7, p31_3_0, p31_3_1, p31_3_2⟩ : p3w1.cell? ⟨w.heap.size, 0, none⟩ = some (.int .i64 1) ∧ p3w1.cell? ⟨w.heap.size, 1, none⟩ = some (.int .i64 1) ∧ p3w1.cell? ⟨w.heap.size, 2, none⟩ = some (.string ⟨#[98, 97, 110, 107]⟩) ∧ p3w1.cell? ⟨w.heap.size, 3, none⟩ = some (.string ⟨#[115, 49, 50]⟩) ∧ p3w1.cell? ⟨w.heap.size, 4, none⟩ = some (.int .i64 0) ∧ p3w1.cell? ⟨w.heap.size, 5, none⟩ = some (.int .i64 0) ∧ p3w1.cell? ⟨w.heap.size, 6, none⟩ = some (.int .i64 1900000) ∧ p3w1.cell? ⟨w.heap.size, 7, none⟩ = some (.bool false) ∧ p3w1.cell? ⟨vb, 0, none⟩ = some (.string ⟨#[98, 97, 110, 107]⟩) ∧ p3w1.cell? ⟨vb, 1, none⟩ = some (.int .i64 50000) ∧ p3w1.cell? ⟨vb, 2, none⟩ = some (.int .i64 300000) ∧ p3w1.cell? ⟨vb, 3, none⟩ = some (.int .i64 1701000) ∧ p3w1.cell? ⟨vb, 4, none⟩ = some (.int .i64 0) ∧ p3w1.cell? ⟨vb, 5, none⟩ = some (.int .i64 6399000) ∧ p3w1.cell? ⟨vb, 6, none⟩ = some (.string ⟨#[115, 49, 50]⟩) ∧ p3w1.cell? ⟨vb, 7, none⟩ = some (.int .i64 12000) ∧ p3w1.cell? ⟨vb, 8, none⟩ = some (.int .i64 232000) ∧ p3w1.cell? ⟨vb, 9, none⟩ = some (.int .i64 0) ∧ p3w1.cell? ⟨vb, 10, none⟩ = some (.int .i64 0) ∧ p3w1.cell? ⟨vb, 11, none⟩ = some (.int .i64 0) ∧ p3w1.cell? ⟨rb, 0, none⟩ = some (.slice (some ⟨vb, 0, none⟩) 2 cap) ∧ p3w1.cell? ⟨rb, 1, none⟩ = some (.int .i64 2100000) ∧ p3w1.cell? ⟨rb, 2, none⟩ = some (.int .i64 0) ∧ p3w1.cell? ⟨rb, 3, none⟩ = some (.int .i64 7900000) ∧ p3w1.cell? ⟨rb, 4, none⟩ = some (.int .i64 0) ∧ p3w1.cell? ⟨rb, 5, none⟩ = some (.int .i64 0) ∧ p3w1.cell? ⟨rb, 6, none⟩ = some (.int .i64 0) ∧ p3w1.cell? ⟨rb, 7, none⟩ = some (.int .i64 1) ∧ p3w1.cell? ⟨tb, 0, none⟩ = some (.int .i64 399000) ∧ p3w1.cell? ⟨tb, 1, none⟩ = some (.int .i64 0) ∧ p3w1.cell? ⟨tb, 2, none⟩ = some (.int .i64 1501000) := by refine ⟨?_, ?_, ?_, ?_, ?_, ?_, ?_, ?_, ?_, ?_, ?_, ?_, ?_, ?_, ?_, ?_, ?_, ?_, ?_, ?_, ?_, ?_, ?_, ?_, ?_, ?_, ?_, ?_, ?_, ?_, ?_⟩ <;> (rw [(bcell hbp31).1 _ _ (by first | (simp; done) | (simp; omega) | omega)]; simp [go_sem, World.cell?_alloc_past, *])
  obtain ⟨p31f1, p31f2, p31f3⟩ : (∀ j, p3w1.frozen? ⟨vb, j, none⟩ = false) ∧ (∀ j, p3w1.frozen? ⟨rb, j, none⟩ = false) ∧ (∀ j, p3w1.frozen? ⟨tb, j, none⟩ = false) := by refine ⟨?_, ?_, ?_⟩ <;> (intro j; rw [(bcell hbp31).2 _ _ (by first | (simp; done) | (simp; omega) | omega)]; simp [go_sem, *])
  obtain ⟨p31o0, p31n0, p31o1, p31n1, p31o2, p31n2, p31o3, p31n3⟩ : w.heap.size < p3w1.heap.size ∧ p3w1.heap.size ≠ w.heap.size ∧ vb < p3w1.heap.size ∧ p3w1.heap.size ≠ vb ∧ rb < p3w1.heap.size ∧ p3w1.heap.size ≠ rb ∧ tb < p3w1.heap.size ∧ p3w1.heap.size ≠ tb := by refine ⟨?_, ?_, ?_, ?_, ?_, ?_, ?_, ?_⟩ <;> omega
  have hBp31 : Below y2.heap.size y2 p3w1 := (by (repeat (first | (with_reducible refine Below.drew ?_) | (with_reducible refine below_drewN ?_ _) | (with_reducible refine Below.alloc ?_ (by first | omega | (simp; done) | (simp; omega) | (simp at *; omega)) _) | (with_reducible refine Below.setCell ?_ (by first | omega | (simp; done) | (simp; omega) | (simp at *; omega)) _) | (with_reducible exact Below.refl _ _) | (with_reducible assumption) | (with_reducible refine Below.trans ?_ (Below.mono (by assumption) (by first | omega | (simp; done) | (simp; omega) | (simp at *; omega)))))))
  clear hbp31 y2_0_0 y2_0_1 y2_0_2 y2_0_3 y2_0_4 y2_0_5 y2_0_6 y2_0_7 y2_1_0 y2_1_1 y2_1_2 y2_1_3 y2_1_4 y2_1_5 y2_1_6 y2_1_7 y2_1_8 y2_1_9 y2_1_10 y2_1_11 y2f1 y2_2_0 y2_2_1 y2_2_2 y2_2_3 y2_2_4 y2_2_5 y2_2_6 y2_2_7 y2f2 y2_3_0 y2_3_1 y2_3_2 y2f3 q1y2 q2y2 q3y2 q4y2
  go_wp2_with fail
  refine hK.out _ _ (by simp [go_sem, World.cell?_alloc_past, *]) (fun hHeld => ?_)
  clear hK K
  try simp only [Act.put, List.setIfInBounds_toArray, List.set_cons_zero, List.set_cons_succ]
  refine wpAnyZ_take (i := 7) (oi := ⟨some 75, _, _, _, _, _⟩) (v := ?_) (by kernel_rfl) (by kernel_rfl) rfl rfl (by kernel_rfl) (by kernel_rfl) (by kernel_rfl) (fun _ _ _ h => h) (Or.inl ⟨by kernel_rfl, ?_⟩) (by assumption) ?_
  rotate_left
  · (intro w hSw; (try dsimp only at hSw); go_simp; all_goals with_reducible rfl)
  try simp only [Act.put, List.setIfInBounds_toArray, List.set_cons_zero, List.set_cons_succ]
  refine wpAnyZ_take (i := 8) (oi := ⟨some 76, _, _, _, _, _⟩) (v := ?_) (by kernel_rfl) (by kernel_rfl) rfl rfl (by kernel_rfl) (by kernel_rfl) (by kernel_rfl) (fun _ _ _ h => h) (Or.inl ⟨by kernel_rfl, ?_⟩) (by assumption) ?_
  rotate_left
  · (intro w hSw; (try dsimp only at hSw); go_simp; all_goals with_reducible rfl)
  try simp only [Act.put, List.setIfInBounds_toArray, List.set_cons_zero, List.set_cons_succ]
  refine wpAnyZ_last (by kernel_rfl) rfl (fun K hK => ?_)
  go_simp
  go_wp2_with fail
  refine hK.out _ _ ?_
  clear hK K
  try simp only [Act.put, List.setIfInBounds_toArray, List.set_cons_zero, List.set_cons_succ]
  have y3_0_0 : (((p3w1.setCell ⟨vb, 9, none⟩ (.int .i64 399000)).setCell ⟨vb, 10, none⟩ (.int .i64 0)).setCell ⟨vb, 11, none⟩ (.int .i64 1501000)).cell? ⟨w.heap.size, 0, none⟩ = some (.int .i64 1) := by simp [go_sem, World.cell?_alloc_past, *]
  have y3_0_1 : (((p3w1.setCell ⟨vb, 9, none⟩ (.int .i64 399000)).setCell ⟨vb, 10, none⟩ (.int .i64 0)).setCell ⟨vb, 11, none⟩ (.int .i64 1501000)).cell? ⟨w.heap.size, 1, none⟩ = some (.int .i64 1) := by simp [go_sem, World.cell?_alloc_past, *]
  have y3_0_2 : (((p3w1.setCell ⟨vb, 9, none⟩ (.int .i64 399000)).setCell ⟨vb, 10, none⟩ (.int .i64 0)).setCell ⟨vb, 11, none⟩ (.int .i64 1501000)).cell? ⟨w.heap.size, 2, none⟩ = some (.string ⟨#[98, 97, 110, 107]⟩) := by simp [go_sem, World.cell?_alloc_past, *]
  have y3_0_3 : (((p3w1.setCell ⟨vb, 9, none⟩ (.int .i64 399000)).setCell ⟨vb, 10, none⟩ (.int .i64 0)).setCell ⟨vb, 11, none⟩ (.int .i64 1501000)).cell? ⟨w.heap.size, 3, none⟩ = some (.string ⟨#[115, 49, 50]⟩) := by simp [go_sem, World.cell?_alloc_past, *]
  have y3_0_4 : (((p3w1.setCell ⟨vb, 9, none⟩ (.int .i64 399000)).setCell ⟨vb, 10, none⟩ (.int .i64 0)).setCell ⟨vb, 11, none⟩ (.int .i64 1501000)).cell? ⟨w.heap.size, 4, none⟩ = some (.int .i64 0) := by simp [go_sem, World.cell?_alloc_past, *]
  have y3_0_5 : (((p3w1.setCell ⟨vb, 9, none⟩ (.int .i64 399000)).setCell ⟨vb, 10, none⟩ (.int .i64 0)).setCell ⟨vb, 11, none⟩ (.int .i64 1501000)).cell? ⟨w.heap.size, 5, none⟩ = some (.int .i64 0) := by simp [go_sem, World.cell?_alloc_past, *]
  have y3_0_6 : (((p3w1.setCell ⟨vb, 9, none⟩ (.int .i64 399000)).setCell ⟨vb, 10, none⟩ (.int .i64 0)).setCell ⟨vb, 11, none⟩ (.int .i64 1501000)).cell? ⟨w.heap.size, 6, none⟩ = some (.int .i64 1900000) := by simp [go_sem, World.cell?_alloc_past, *]
  have y3_0_7 : (((p3w1.setCell ⟨vb, 9, none⟩ (.int .i64 399000)).setCell ⟨vb, 10, none⟩ (.int .i64 0)).setCell ⟨vb, 11, none⟩ (.int .i64 1501000)).cell? ⟨w.heap.size, 7, none⟩ = some (.bool false) := by simp [go_sem, World.cell?_alloc_past, *]
  have y3_1_0 : (((p3w1.setCell ⟨vb, 9, none⟩ (.int .i64 399000)).setCell ⟨vb, 10, none⟩ (.int .i64 0)).setCell ⟨vb, 11, none⟩ (.int .i64 1501000)).cell? ⟨vb, 0, none⟩ = some (.string ⟨#[98, 97, 110, 107]⟩) := by simp [go_sem, World.cell?_alloc_past, *]
  have y3_1_1 : (((p3w1.setCell ⟨vb, 9, none⟩ (.int .i64 399000)).setCell ⟨vb, 10, none⟩ (.int .i64 0)).setCell ⟨vb, 11, none⟩ (.int .i64 1501000)).cell? ⟨vb, 1, none⟩ = some (.int .i64 50000) := by simp [go_sem, World.cell?_alloc_past, *]
  have y3_1_2 : (((p3w1.setCell ⟨vb, 9, none⟩ (.int .i64 399000)).setCell ⟨vb, 10, none⟩ (.int .i64 0)).setCell ⟨vb, 11, none⟩ (.int .i64 1501000)).cell? ⟨vb, 2, none⟩ = some (.int .i64 300000) := by simp [go_sem, World.cell?_alloc_past, *]
  have y3_1_3 : (((p3w1.setCell ⟨vb, 9, none⟩ (.int .i64 399000)).setCell ⟨vb, 10, none⟩ (.int .i64 0)).setCell ⟨vb, 11, none⟩ (.int .i64 1501000)).cell? ⟨vb, 3, none⟩ = some (.int .i64 1701000) := by simp [go_sem, World.cell?_alloc_past, *]
  have y3_1_4 : (((p3w1.setCell ⟨vb, 9, none⟩ (.int .i64 399000)).setCell ⟨vb, 10, none⟩ (.int .i64 0)).setCell ⟨vb, 11, none⟩ (.int .i64 1501000)).cell? ⟨vb, 4, none⟩ = some (.int .i64 0) := by simp [go_sem, World.cell?_alloc_past, *]
  have y3_1_5 : (((p3w1.setCell ⟨vb, 9, none⟩ (.int .i64 399000)).setCell ⟨vb, 10, none⟩ (.int .i64 0)).setCell ⟨vb, 11, none⟩ (.int .i64 1501000)).cell? ⟨vb, 5, none⟩ = some (.int .i64 6399000) := by simp [go_sem, World.cell?_alloc_past, *]
  have y3_1_6 : (((p3w1.setCell ⟨vb, 9, none⟩ (.int .i64 399000)).setCell ⟨vb, 10, none⟩ (.int .i64 0)).setCell ⟨vb, 11, none⟩ (.int .i64 1501000)).cell? ⟨vb, 6, none⟩ = some (.string ⟨#[115, 49, 50]⟩) := by simp [go_sem, World.cell?_alloc_past, *]
  have y3_1_7 : (((p3w1.setCell ⟨vb, 9, none⟩ (.int .i64 399000)).setCell ⟨vb, 10, none⟩ (.int .i64 0)).setCell ⟨vb, 11, none⟩ (.int .i64 1501000)).cell? ⟨vb, 7, none⟩ = some (.int .i64 12000) := by simp [go_sem, World.cell?_alloc_past, *]
  have y3_1_8 : (((p3w1.setCell ⟨vb, 9, none⟩ (.int .i64 399000)).setCell ⟨vb, 10, none⟩ (.int .i64 0)).setCell ⟨vb, 11, none⟩ (.int .i64 1501000)).cell? ⟨vb, 8, none⟩ = some (.int .i64 232000) := by simp [go_sem, World.cell?_alloc_past, *]
  have y3_1_9 : (((p3w1.setCell ⟨vb, 9, none⟩ (.int .i64 399000)).setCell ⟨vb, 10, none⟩ (.int .i64 0)).setCell ⟨vb, 11, none⟩ (.int .i64 1501000)).cell? ⟨vb, 9, none⟩ = some (.int .i64 399000) := by simp [go_sem, World.cell?_alloc_past, *]
  have y3_1_10 : (((p3w1.setCell ⟨vb, 9, none⟩ (.int .i64 399000)).setCell ⟨vb, 10, none⟩ (.int .i64 0)).setCell ⟨vb, 11, none⟩ (.int .i64 1501000)).cell? ⟨vb, 10, none⟩ = some (.int .i64 0) := by simp [go_sem, World.cell?_alloc_past, *]
  have y3_1_11 : (((p3w1.setCell ⟨vb, 9, none⟩ (.int .i64 399000)).setCell ⟨vb, 10, none⟩ (.int .i64 0)).setCell ⟨vb, 11, none⟩ (.int .i64 1501000)).cell? ⟨vb, 11, none⟩ = some (.int .i64 1501000) := by simp [go_sem, World.cell?_alloc_past, *]
  have y3f1 : ∀ j, (((p3w1.setCell ⟨vb, 9, none⟩ (.int .i64 399000)).setCell ⟨vb, 10, none⟩ (.int .i64 0)).setCell ⟨vb, 11, none⟩ (.int .i64 1501000)).frozen? ⟨vb, j, none⟩ = false := fun j => by simp [go_sem, *]
  have y3_2_0 : (((p3w1.setCell ⟨vb, 9, none⟩ (.int .i64 399000)).setCell ⟨vb, 10, none⟩ (.int .i64 0)).setCell ⟨vb, 11, none⟩ (.int .i64 1501000)).cell? ⟨rb, 0, none⟩ = some (.slice (some ⟨vb, 0, none⟩) 2 cap) := by simp [go_sem, World.cell?_alloc_past, *]
  have y3_2_1 : (((p3w1.setCell ⟨vb, 9, none⟩ (.int .i64 399000)).setCell ⟨vb, 10, none⟩ (.int .i64 0)).setCell ⟨vb, 11, none⟩ (.int .i64 1501000)).cell? ⟨rb, 1, none⟩ = some (.int .i64 2100000) := by simp [go_sem, World.cell?_alloc_past, *]
  have y3_2_2 : (((p3w1.setCell ⟨vb, 9, none⟩ (.int .i64 399000)).setCell ⟨vb, 10, none⟩ (.int .i64 0)).setCell ⟨vb, 11, none⟩ (.int .i64 1501000)).cell? ⟨rb, 2, none⟩ = some (.int .i64 0) := by simp [go_sem, World.cell?_alloc_past, *]
  have y3_2_3 : (((p3w1.setCell ⟨vb, 9, none⟩ (.int .i64 399000)).setCell ⟨vb, 10, none⟩ (.int .i64 0)).setCell ⟨vb, 11, none⟩ (.int .i64 1501000)).cell? ⟨rb, 3, none⟩ = some (.int .i64 7900000) := by simp [go_sem, World.cell?_alloc_past, *]
  have y3_2_4 : (((p3w1.setCell ⟨vb, 9, none⟩ (.int .i64 399000)).setCell ⟨vb, 10, none⟩ (.int .i64 0)).setCell ⟨vb, 11, none⟩ (.int .i64 1501000)).cell? ⟨rb, 4, none⟩ = some (.int .i64 0) := by simp [go_sem, World.cell?_alloc_past, *]
  have y3_2_5 : (((p3w1.setCell ⟨vb, 9, none⟩ (.int .i64 399000)).setCell ⟨vb, 10, none⟩ (.int .i64 0)).setCell ⟨vb, 11, none⟩ (.int .i64 1501000)).cell? ⟨rb, 5, none⟩ = some (.int .i64 0) := by simp [go_sem, World.cell?_alloc_past, *]
  have y3_2_6 : (((p3w1.setCell ⟨vb, 9, none⟩ (.int .i64 399000)).setCell ⟨vb, 10, none⟩ (.int .i64 0)).setCell ⟨vb, 11, none⟩ (.int .i64 1501000)).cell? ⟨rb, 6, none⟩ = some (.int .i64 0) := by simp [go_sem, World.cell?_alloc_past, *]
  have y3_2_7 : (((p3w1.setCell ⟨vb, 9, none⟩ (.int .i64 399000)).setCell ⟨vb, 10, none⟩ (.int .i64 0)).setCell ⟨vb, 11, none⟩ (.int .i64 1501000)).cell? ⟨rb, 7, none⟩ = some (.int .i64 1) := by simp [go_sem, World.cell?_alloc_past, *]
  have y3f2 : ∀ j, (((p3w1.setCell ⟨vb, 9, none⟩ (.int .i64 399000)).setCell ⟨vb, 10, none⟩ (.int .i64 0)).setCell ⟨vb, 11, none⟩ (.int .i64 1501000)).frozen? ⟨rb, j, none⟩ = false := fun j => by simp [go_sem, *]
  have y3_3_0 : (((p3w1.setCell ⟨vb, 9, none⟩ (.int .i64 399000)).setCell ⟨vb, 10, none⟩ (.int .i64 0)).setCell ⟨vb, 11, none⟩ (.int .i64 1501000)).cell? ⟨tb, 0, none⟩ = some (.int .i64 399000) := by simp [go_sem, World.cell?_alloc_past, *]
  have y3_3_1 : (((p3w1.setCell ⟨vb, 9, none⟩ (.int .i64 399000)).setCell ⟨vb, 10, none⟩ (.int .i64 0)).setCell ⟨vb, 11, none⟩ (.int .i64 1501000)).cell? ⟨tb, 1, none⟩ = some (.int .i64 0) := by simp [go_sem, World.cell?_alloc_past, *]
  have y3_3_2 : (((p3w1.setCell ⟨vb, 9, none⟩ (.int .i64 399000)).setCell ⟨vb, 10, none⟩ (.int .i64 0)).setCell ⟨vb, 11, none⟩ (.int .i64 1501000)).cell? ⟨tb, 2, none⟩ = some (.int .i64 1501000) := by simp [go_sem, World.cell?_alloc_past, *]
  have y3f3 : ∀ j, (((p3w1.setCell ⟨vb, 9, none⟩ (.int .i64 399000)).setCell ⟨vb, 10, none⟩ (.int .i64 0)).setCell ⟨vb, 11, none⟩ (.int .i64 1501000)).frozen? ⟨tb, j, none⟩ = false := fun j => by simp [go_sem, *]
  have hzy3 : (((p3w1.setCell ⟨vb, 9, none⟩ (.int .i64 399000)).setCell ⟨vb, 10, none⟩ (.int .i64 0)).setCell ⟨vb, 11, none⟩ (.int .i64 1501000)).heap.size = p3w1.heap.size := by simp
  have hDy3 : BelowD rb vb w.heap.size w (((p3w1.setCell ⟨vb, 9, none⟩ (.int .i64 399000)).setCell ⟨vb, 10, none⟩ (.int .i64 0)).setCell ⟨vb, 11, none⟩ (.int .i64 1501000)) := (((hDy2.trans (BelowD.of hBp31 (by omega))).set vb 9 _ (Or.inr (Or.inl rfl))).set vb 10 _ (Or.inr (Or.inl rfl))).set vb 11 _ (Or.inr (Or.inl rfl))
  have zsy3 : y2.heap.size ≤ (((p3w1.setCell ⟨vb, 9, none⟩ (.int .i64 399000)).setCell ⟨vb, 10, none⟩ (.int .i64 0)).setCell ⟨vb, 11, none⟩ (.int .i64 1501000)).heap.size := by rw [hzy3]; exact hBp31.size
  clear p31_0_0 p31_0_1 p31_0_2 p31_0_3 p31_0_4 p31_0_5 p31_0_6 p31_0_7 p31_1_0 p31_1_1 p31_1_2 p31_1_3 p31_1_4 p31_1_5 p31_1_6 p31_1_7 p31_1_8 p31_1_9 p31_1_10 p31_1_11 p31_2_0 p31_2_1 p31_2_2 p31_2_3 p31_2_4 p31_2_5 p31_2_6 p31_2_7 p31_3_0 p31_3_1 p31_3_2 p31f1 p31f2 p31f3 p31o0 p31n0 p31o1 p31n1 p31o2 p31n2 p31o3 p31n3 hBp31
  generalize hWy3 : ((p3w1.setCell ⟨vb, 9, none⟩ (.int .i64 399000)).setCell ⟨vb, 10, none⟩ (.int .i64 0)).setCell ⟨vb, 11, none⟩ (.int .i64 1501000) = y3 at *
  clear hWy3
  have q1y3 : w.heap.size < y3.heap.size := by omega
  have q2y3 : vb < y3.heap.size := by omega
  have q3y3 : rb < y3.heap.size := by omega
  have q4y3 : tb < y3.heap.size := by omega
  go_wp2
  go_ret
  refine ⟨rfl, ⟨(by simp [go_sem, *]), (by simp [go_sem, *]), (by simp [go_sem, *]), (by simp [go_sem, *]), (by simp [go_sem, *]), (by simp [go_sem, *]), (by simp [go_sem, *]), (by simp [go_sem, *]), (by simp [go_sem, *]), (by simp [go_sem, *]), (by simp [go_sem, *]), (by simp [go_sem, *]), (by simp [go_sem, *]), (by simp [go_sem, *]), (by simp [go_sem, *]), (by simp [go_sem, *]), (by simp [go_sem, *]), (by simp [go_sem, *]), (by simp [go_sem, *]), (by simp [go_sem, *]), (fun j => by simp [go_sem, *]), (fun j => by simp [go_sem, *])⟩, ?_⟩
  exact hDy3.set rb 7 _ (Or.inl rfl)
end Go.Proofs.Ytjkhjjmmkdfjmaa
