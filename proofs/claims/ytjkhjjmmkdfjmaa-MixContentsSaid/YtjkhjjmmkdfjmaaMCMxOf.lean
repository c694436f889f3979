import Derived.Test.YtjkhjjmmkdfjmaaMCPrOf
import Derived.Outline
namespace Go.Proofs.Ytjkhjjmmkdfjmaa
open Go.ChangeShapes Go.WideShapes Go.ChangeAt Go.RowKit
set_option linter.unusedVariables false
set_option linter.unusedSimpArgs false
attribute [local go_sem ↓] Go.wp_at_zero Go.wp_at_succ
/-- The vessel's mixture, or the error. -/
def MxPost (L : List Ve) (X : List Fl) (s : ByteArray) (w : World) (e : Ending) (w' : World) : Prop :=
  ((¬ (behP L X).2 = 0 ∧ e = .returned (.tuple #[.agg #[.int .i64 0, .int .i64 0, .int .i64 0, .int .i64 0], .int .i64 (behP L X).2])) ∨
  ((behP L X).2 = 0 ∧ fndV s L = -1 ∧ e = .returned (.tuple #[.agg #[.int .i64 0, .int .i64 0, .int .i64 0, .int .i64 0], .int .i64 6])) ∨
  ((behP L X).2 = 0 ∧ ∃ (q : Nat) (hq : q < (runR (rm0 L) X).H.length), fndV s L = q ∧ ((((runR (rm0 L) X).H[q].a + (runR (rm0 L) X).H[q].b + (runR (rm0 L) X).H[q].c) = 0 ∧ e = .returned (.tuple #[.agg #[.int .i64 0, .int .i64 0, .int .i64 0, .int .i64 0], .int .i64 11])) ∨ (¬ ((runR (rm0 L) X).H[q].a + (runR (rm0 L) X).H[q].b + (runR (rm0 L) X).H[q].c) = 0 ∧ e = .returned (.tuple #[.agg #[.int .i64 (1000 * (runR (rm0 L) X).H[q].a / ((runR (rm0 L) X).H[q].a + (runR (rm0 L) X).H[q].b + (runR (rm0 L) X).H[q].c)), .int .i64 (upI (1000 * (runR (rm0 L) X).H[q].a) ((runR (rm0 L) X).H[q].a + (runR (rm0 L) X).H[q].b + (runR (rm0 L) X).H[q].c)), .int .i64 (1000 * (runR (rm0 L) X).H[q].b / ((runR (rm0 L) X).H[q].a + (runR (rm0 L) X).H[q].b + (runR (rm0 L) X).H[q].c)), .int .i64 (upI (1000 * (runR (rm0 L) X).H[q].b) ((runR (rm0 L) X).H[q].a + (runR (rm0 L) X).H[q].b + (runR (rm0 L) X).H[q].c))], .int .i64 0]))))) ∧ Below w.heap.size w w'
set_option maxHeartbeats 4000000 in
set_option maxRecDepth 100000 in
theorem MixtureOf_any (L : List Ve) (A : Option Addr) (cap n : Nat) (X : List Fl) (fA : Option Addr) (fcap m : Nat) (s : ByteArray) (w : World) (hlen : Hid (n = L.length)) (hl : n ≤ 1000000) (hsz : Hid (∀ g ∈ L, g.nm.size ≤ 1000000)) (hL : Hid (SlRows veV 3 w A L)) (hm : Hid (m = X.length)) (hX : Hid (SlRows flV 8 w fA X)) : Calls Try.prog 26 #[.slice A n cap, .slice fA m fcap, .string s] w (MxPost L X s w) := by
  obtain ⟨E, hE⟩ : ∃ E, Hid ((behP L X).2 = E) := ⟨_, Lib.hid rfl⟩
  have HL : Hid (∀ x, Below w.heap.size w x → SlRows veV 3 x A L) := Lib.hid fun x hb => hL.out.below hb
  have HX : Hid (∀ x, Below w.heap.size w x → SlRows flV 8 x fA X) := Lib.hid fun x hb => hX.out.below hb
  go_enter Try.func26, Try.ntmps26
  go_wp2_with fail
  refine (vesselBehind_any L A cap n X fA fcap m s _ hlen hl hsz (Lib.hid (HL.out _ ((Below.refl _ _).alloc (Nat.le_refl _) _))) hm (Lib.hid (HX.out _ ((Below.refl _ _).alloc (Nat.le_refl _) _)))).mono ?_
  rintro e x1 ⟨hpost, hb1⟩
  have z1 := hb1.size
  try simp at z1
  obtain ⟨q0, q1, q2, q3⟩ : x1.cell? ⟨w.heap.size, 0, none⟩ = some (.int .i64 0) ∧ x1.cell? ⟨w.heap.size, 1, none⟩ = some (.int .i64 0) ∧ x1.cell? ⟨w.heap.size, 2, none⟩ = some (.int .i64 0) ∧ x1.cell? ⟨w.heap.size, 3, none⟩ = some (.int .i64 0) := by refine ⟨?_, ?_, ?_, ?_⟩ <;> (rw [bc1 hb1]; simp [go_sem, cP, *])
  have qf : ∀ j, x1.frozen? ⟨w.heap.size, j, none⟩ = false := fun j => by rw [bc2 hb1]; simp [go_sem, *]
  have l1 : w.heap.size < x1.heap.size := by omega
  have n1 : x1.heap.size ≠ w.heap.size := by omega
  have k1 : w.heap.size < x1.heap.size + 1 := by omega
  have m1 : w.heap.size ≠ x1.heap.size := by omega
  have hB1 : Below w.heap.size w x1 := ((Below.refl _ _).alloc (Nat.le_refl _) _).trans (hb1.mono (by simp))
  clear hb1
  rw [hE.out] at hpost
  rcases hpost with ⟨hz, rfl⟩ | ⟨hz, hf, rfl⟩ | ⟨hz, q, hq, hf, he⟩
  · have hz1 : (E != 0) = true := by simpa using hz
    go_wp2
    refine bodyPost_ret (v := .tuple #[.agg #[.int .i64 0, .int .i64 0, .int .i64 0, .int .i64 0], .int .i64 E]) (by simp [results, Try.results26, go_sem, *]) rfl ⟨Or.inl ⟨by rw [hE.out]; exact hz, by rw [hE.out]⟩, ?_⟩
    exact belA
  · subst hz
    have hf := Lib.hid hf
    go_wp2
    refine bodyPost_ret (v := .tuple #[.agg #[.int .i64 0, .int .i64 0, .int .i64 0, .int .i64 0], .int .i64 6]) (by simp [results, Try.results26, go_sem, *]) rfl ⟨Or.inr (Or.inl ⟨hE.out, hf.out, rfl⟩), ?_⟩
    exact belA
  subst hz
  obtain ⟨N, hD⟩ : ∃ N, behP L X = (N, 0) := ⟨_, Prod.ext rfl hE.out⟩
  have hok := (beh_all hD).1.hd _ (List.getElem_mem hq)
  clear hD
  obtain ⟨G, hG⟩ : ∃ G, Hid ((runR (rm0 L) X).H[q] = G) := ⟨_, Lib.hid rfl⟩
  rw [hG.out] at he hok
  subst he
  obtain ⟨_, gc, gv1, gv2, _, _⟩ := hok
  have hc := Lib.hid gc
  obtain ⟨ca, cb, cc, cs⟩ := conB_iff.1 gc
  have hf := Lib.hid hf
  clear gc
  obtain ⟨S, hS⟩ : ∃ S, Hid (G.a + G.b + G.c = S) := ⟨_, Lib.hid rfl⟩
  have S0 : 0 ≤ S ∧ S ≤ 1000000000 := by have := hS.out; omega
  have W1 : IntKind.i64.wrap (1000 * G.a) = 1000 * G.a := IntWalk.i64_in _ (by omega)
  have W2 : IntKind.i64.wrap (1000 * G.b) = 1000 * G.b := IntWalk.i64_in _ (by omega)
  go_wp2_with fail
  refine (sumOf_ok G.a G.b G.c S _ hc hS).mono ?_
  rintro e x2 ⟨rfl, hb2⟩
  have z2 := hb2.size
  try simp at z2
  obtain ⟨r0, r1, r2, r3⟩ : x2.cell? ⟨w.heap.size, 0, none⟩ = some (.int .i64 0) ∧ x2.cell? ⟨w.heap.size, 1, none⟩ = some (.int .i64 0) ∧ x2.cell? ⟨w.heap.size, 2, none⟩ = some (.int .i64 0) ∧ x2.cell? ⟨w.heap.size, 3, none⟩ = some (.int .i64 0) := by refine ⟨?_, ?_, ?_, ?_⟩ <;> (rw [bc1 hb2]; simp [go_sem, cP, *])
  have rf : ∀ j, x2.frozen? ⟨w.heap.size, j, none⟩ = false := fun j => by rw [bc2 hb2]; simp [go_sem, *]
  have l2 : w.heap.size < x2.heap.size := by omega
  have n2 : x2.heap.size ≠ w.heap.size := by omega
  have k2 : w.heap.size < x2.heap.size + 1 := by omega
  have m2 : w.heap.size ≠ x2.heap.size := by omega
  obtain ⟨ra, rb⟩ : x2.cell? ⟨x1.heap.size, 3, none⟩ = some (.int .i64 G.a) ∧ x2.cell? ⟨x1.heap.size, 4, none⟩ = some (.int .i64 G.b) := by refine ⟨?_, ?_⟩ <;> (rw [bc1 hb2]; simp [go_sem, cP, *])
  have g2 : x1.heap.size < x2.heap.size := by omega
  have hB2 : Below w.heap.size w x2 := (hB1.alloc (by omega) _).trans (hb2.mono (by simp; omega))
  clear hb2 q0 q1 q2 q3 qf k1
  by_cases hS0 : S = 0
  · subst hS0
    go_wp2
    refine bodyPost_ret (v := .tuple #[.agg #[.int .i64 0, .int .i64 0, .int .i64 0, .int .i64 0], .int .i64 11]) (by simp [results, Try.results26, go_sem, *]) rfl ⟨Or.inr (Or.inr ⟨hE.out, q, hq, hf.out, Or.inl ⟨by rw [hG.out, hS.out], rfl⟩⟩), ?_⟩
    exact belA
  have S1 : (S == 0) = false := by simpa using hS0
  have S2 : 1 ≤ S := by omega
  go_upto_region 7 with (fail)
  refine wp_region_held_drew (S := (fun w' => w'.cell? ⟨x1.heap.size, 3, none⟩ = some (.int .i64 G.a) ∧ w'.cell? ⟨x1.heap.size, 4, none⟩ = some (.int .i64 G.b))) (by kernel_rfl) (by simp [go_sem, cP, *]) (fun hHeld => ?_)
  refine tkA 0 28 rfl ?_
  refine tkA 1 29 rfl ?_
  refine tkA 2 30 rfl ?_
  refine tkA 3 31 rfl ?_
  refine tkA 4 32 rfl ?_
  refine tkA 5 33 rfl ?_
  refine tkA 7 35 rfl ?_
  refine tkA 8 36 rfl ?_
  refine tkA 9 37 rfl ?_
  refine tkA 10 38 rfl ?_
  refine tkA 11 39 rfl ?_
  refine tkA 12 40 rfl ?_
  refine rdA 6 rfl (fun K hK => ?_)
  go_simp
  refine (rounded2_any (1000 * G.a) S (1000 * G.a / S) (upI (1000 * G.a) S) _ S2 (by omega) (by omega) (by omega) (Lib.hid rfl) (Lib.hid rfl)).mono ?_
  rintro e x3 ⟨rfl, hb3⟩
  have z3 := hb3.size
  try simp at z3
  obtain ⟨t0, t1, t2, t3⟩ : x3.cell? ⟨w.heap.size, 0, none⟩ = some (.int .i64 0) ∧ x3.cell? ⟨w.heap.size, 1, none⟩ = some (.int .i64 0) ∧ x3.cell? ⟨w.heap.size, 2, none⟩ = some (.int .i64 0) ∧ x3.cell? ⟨w.heap.size, 3, none⟩ = some (.int .i64 0) := by refine ⟨?_, ?_, ?_, ?_⟩ <;> (rw [bc1 hb3]; simp [go_sem, cP, *])
  have tf : ∀ j, x3.frozen? ⟨w.heap.size, j, none⟩ = false := fun j => by rw [bc2 hb3]; simp [go_sem, *]
  have l3 : w.heap.size < x3.heap.size := by omega
  have n3 : x3.heap.size ≠ w.heap.size := by omega
  have k3 : w.heap.size < x3.heap.size + 1 := by omega
  have m3 : w.heap.size ≠ x3.heap.size := by omega
  obtain ⟨ta, tb⟩ : x3.cell? ⟨x1.heap.size, 3, none⟩ = some (.int .i64 G.a) ∧ x3.cell? ⟨x1.heap.size, 4, none⟩ = some (.int .i64 G.b) := by refine ⟨?_, ?_⟩ <;> (rw [bc1 hb3]; simp [go_sem, cP, *])
  have g3 : x1.heap.size < x3.heap.size := by omega
  have hB3 : Below w.heap.size w x3 := (hB2.drew).trans (hb3.mono (by simp; omega))
  clear hb3
  go_wp2_with fail
  refine hK.out _ _ (by simp [go_sem, cP, *]) (fun hHeld => ?_)
  clear hK K
  try simp only [Act.put, sA, sB, sC]
  clear r0 r1 r2 r3 rf ra rb
  refine rdA 13 rfl (fun K hK => ?_)
  go_simp
  refine (rounded2_any (1000 * G.b) S (1000 * G.b / S) (upI (1000 * G.b) S) _ S2 (by omega) (by omega) (by omega) (Lib.hid rfl) (Lib.hid rfl)).mono ?_
  rintro e x4 ⟨rfl, hb4⟩
  have z4 := hb4.size
  try simp at z4
  obtain ⟨v0, v1, v2, v3⟩ : x4.cell? ⟨w.heap.size, 0, none⟩ = some (.int .i64 0) ∧ x4.cell? ⟨w.heap.size, 1, none⟩ = some (.int .i64 0) ∧ x4.cell? ⟨w.heap.size, 2, none⟩ = some (.int .i64 0) ∧ x4.cell? ⟨w.heap.size, 3, none⟩ = some (.int .i64 0) := by refine ⟨?_, ?_, ?_, ?_⟩ <;> (rw [bc1 hb4]; simp [go_sem, cP, *])
  have vf : ∀ j, x4.frozen? ⟨w.heap.size, j, none⟩ = false := fun j => by rw [bc2 hb4]; simp [go_sem, *]
  have l4 : w.heap.size < x4.heap.size := by omega
  have n4 : x4.heap.size ≠ w.heap.size := by omega
  have k4 : w.heap.size < x4.heap.size + 1 := by omega
  have m4 : w.heap.size ≠ x4.heap.size := by omega
  obtain ⟨va, vb⟩ : x4.cell? ⟨x1.heap.size, 3, none⟩ = some (.int .i64 G.a) ∧ x4.cell? ⟨x1.heap.size, 4, none⟩ = some (.int .i64 G.b) := by refine ⟨?_, ?_⟩ <;> (rw [bc1 hb4]; simp [go_sem, cP, *])
  have g4 : x1.heap.size < x4.heap.size := by omega
  have hB4 : Below w.heap.size w x4 := hB3.trans (hb4.mono hB3.size)
  clear hb4
  go_wp2_with fail
  refine hK.out _ _ (by simp [go_sem, cP, *]) (fun hHeld => ?_)
  clear hK K
  try simp only [Act.put, sA, sB, sC]
  clear t0 t1 t2 t3 tf ta tb
  refine tkA 14 42 rfl ?_
  refine rdA 15 rfl (fun K hK => ?_)
  go_simp
  go_wp2_with fail
  refine hK.out _ _ (by simp [go_sem, cP, *]) (fun hHeld => ?_)
  clear hK K
  try simp only [Act.put, sA, sB, sC]
  refine tkA 16 7 rfl ?_
  refine wpAnyH_done (by kernel_rfl) ?_ _
  go_wp2
  refine bodyPost_ret (v := .tuple #[.agg #[.int .i64 (1000 * G.a / S), .int .i64 (upI (1000 * G.a) S), .int .i64 (1000 * G.b / S), .int .i64 (upI (1000 * G.b) S)], .int .i64 0]) (by simp [results, Try.results26, go_sem, *]) rfl ⟨Or.inr (Or.inr ⟨hE.out, q, hq, hf.out, Or.inr ⟨by rw [hG.out, hS.out]; exact hS0, ?_⟩⟩), ?_⟩
  · rw [hG.out, hS.out]
  · exact belA
end Go.Proofs.Ytjkhjjmmkdfjmaa
