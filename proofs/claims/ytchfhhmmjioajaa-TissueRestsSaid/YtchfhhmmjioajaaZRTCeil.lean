import Derived.Test.YtchfhhmmjioajaaZRTLoaded
import Derived.Test.YtchfhhmmjioajaaZRMSmall
import Derived.Test.YtchfhhmmjioajaaZRLastReg
import Derived.Outline
namespace Go.Proofs.Ytchfhhmmjioajaa
open Go.ChangeShapes Go.WideShapes Go.ChangeAt Go.RowKit
set_option linter.unusedVariables false
set_option linter.unusedSimpArgs false
attribute [local go_sem ↓] Go.wp_at_zero Go.wp_at_succ
/-- Two new blocks of two numbers each. -/
def R8 (w : World) (p q r s : Int) (u v : Value) (w' : World) : Prop := ∃ b c, u = .pointer (some ⟨b, 0, none⟩) ∧ v = .pointer (some ⟨c, 0, none⟩) ∧ w.heap.size ≤ b ∧ b < w'.heap.size ∧ w.heap.size ≤ c ∧ c < w'.heap.size ∧ w'.cell? ⟨b, 0, none⟩ = some (.int .i64 p) ∧ w'.cell? ⟨b, 1, none⟩ = some (.int .i64 q) ∧ w'.cell? ⟨c, 0, none⟩ = some (.int .i64 r) ∧ w'.cell? ⟨c, 1, none⟩ = some (.int .i64 s) ∧ Below w.heap.size w w'
theorem R8.of {w X1 : World} {p q r s : Int} {b c : Nat} (hB : Below w.heap.size w X1) (hb : w.heap.size ≤ b) (lb : b < X1.heap.size) (hc : w.heap.size ≤ c) (lc : c < X1.heap.size) (hn : b ≠ c) (h0 : X1.cell? ⟨b, 0, none⟩ = some (.int .i64 p)) (h1 : X1.cell? ⟨b, 1, none⟩ = some (.int .i64 q)) (h : (∀ i, i < 2 → ∃ v, X1.cell? ⟨c, i, none⟩ = some v) ∧ (∀ j, X1.frozen? ⟨c, j, none⟩ = false)) :
    R8 w p q r s (.pointer (some ⟨b, 0, none⟩)) (.pointer (some ⟨c, 0, none⟩)) (set2 X1 c (.int .i64 r) (.int .i64 s)) := by
  obtain ⟨t0, t1, t5, t6, t7, t8⟩ := set2_is (.int .i64 r) (.int .i64 s) h.1 h.2
  exact ⟨b, c, rfl, rfl, hb, by rw [t8]; exact lb, hc, by rw [t8]; exact lc, by rw [t6 _ _ hn]; exact h0, by rw [t6 _ _ hn]; exact h1, t0, t1, set2_below hB hc⟩
theorem limitOf_x (n h b s f p q : Int) (w : World) (f0 : 0 ≤ f ∧ f ≤ 1000) (b0 : 0 ≤ b ∧ b ≤ 10000) (s0 : 1000 ≤ s ∧ s ≤ 10000) (hp : f * 1000 * b = p) (hq : 1000000 + f * (s - 1000) = q) :
    Calls Try.prog 101 #[.agg #[.int .i64 n, .int .i64 h, .int .i64 b, .int .i64 s], .int .i64 f] w fun e w' => e = .returned (.agg #[.int .i64 p, .int .i64 q]) ∧ Below w.heap.size w w' := by
  have := limitOf_any n h b s f w f0.1 f0.2 b0.1 b0.2 s0.1 s0.2
  rw [hp, hq] at this
  exact this
theorem endsOf_x (a b c d p q : Int) (w : World) (a0 : 0 ≤ a ∧ a ≤ 100000000) (b0 : 0 ≤ b ∧ b ≤ 100000000) (c0 : 0 ≤ c ∧ c ≤ 100000000) (d0 : 0 ≤ d ∧ d ≤ 100000000) (hp : a + c = p) (hq : b + d = q) :
    Calls Try.prog 107 #[.agg #[.int .i64 a, .int .i64 b, .int .i64 c, .int .i64 d]] w fun e w' => e = .returned (.agg #[.int .i64 p, .int .i64 q]) ∧ Below w.heap.size w w' := by
  have := endsOf_any a b c d w a0 b0 c0 d0
  rw [hp, hq] at this
  exact this
theorem least_x (b s x r : Int) (w : World) (b0 : 0 ≤ b ∧ b ≤ 10000000000) (s0 : 1 ≤ s ∧ s ≤ 10000000) (x0 : 0 ≤ x ∧ x ≤ 200000000) (hr : lstP b s x = r) :
    Calls Try.prog 108 #[.agg #[.int .i64 b, .int .i64 s], .int .i64 x] w fun e w' => e = .returned (.int .i64 r) ∧ Below w.heap.size w w' := by
  have := least_any b s x w b0.1 b0.2 s0.1 s0.2 x0.1 x0.2
  rw [hr] at this
  exact this
theorem checkFactor_x (n : Int) (w : World) (hz : rngE n 0 1000 = 0) :
    Calls Try.prog 99 #[.int .i64 n] w fun e w' => e = .returned (.int .i64 0) ∧ w = w' := by
  have := tcheckFactor_any n w
  rw [hz] at this
  exact this
theorem first00 (b : Nat) (w : World) (h0 : w.cell? ⟨b, 0, none⟩ = some (.int .i64 0)) (h1 : w.cell? ⟨b, 1, none⟩ = some (.int .i64 0)) :
    Calls Try.prog 73 #[.slice (some ⟨b, 0, none⟩) 2 2] w fun e w' => e = .returned (.int .i64 0) ∧ w = w' := by
  have := cFirst2c 0 0 b w h0 h1
  rw [show firE [0, 0] = 0 by decide] at this
  exact this
set_option maxRecDepth 100000 in
set_option maxHeartbeats 8000000 in
theorem Ceiling_ex (tb to tcap q0 qo qcap : Nat) (w : World) (htb : tb < w.heap.size) (hq0 : q0 < w.heap.size)
    (g0 : w.cell? ⟨tb, to, none⟩ = some (.int .i64 600)) (g1 : w.cell? ⟨tb, to + 1, none⟩ = some (.int .i64 240)) (g2 : w.cell? ⟨tb, to + 2, none⟩ = some (.int .i64 500)) (g3 : w.cell? ⟨tb, to + 3, none⟩ = some (.int .i64 1500))
    (p0 : w.cell? ⟨q0, qo, none⟩ = some (.int .i64 1925230)) (p1 : w.cell? ⟨q0, qo + 1, none⟩ = some (.int .i64 1925230)) (p2 : w.cell? ⟨q0, qo + 2, none⟩ = some (.int .i64 0)) (p3 : w.cell? ⟨q0, qo + 3, none⟩ = some (.int .i64 0)) :
    Calls Try.prog 52 #[.slice (some ⟨tb, to, none⟩) 1 tcap, .slice (some ⟨q0, qo, none⟩) 1 qcap, .int .i64 500] w fun e w' => e = .returned (.tuple #[.agg #[.int .i64 1341, .int .i64 1341], .int .i64 0]) ∧ Below w.heap.size w w' := by
  have HT := Lib.hid (cm1 (x := ⟨600, 240, 500, 1500⟩) htb g0 g1 g2 g3)
  have HL := Lib.hid (ld1 (x := ⟨1925230, 1925230, 0, 0⟩) hq0 p0 p1 p2 p3)
  have HG := Lib.hid (And.intro g0 (And.intro g1 (And.intro g2 (And.intro g3 (And.intro p0 (And.intro p1 (And.intro p2 p3)))))))
  clear g0 g1 g2 g3 p0 p1 p2 p3
  have hX : ∀ (o : Obj), Below w.heap.size w (w.alloc o) := fun o => (Below.refl _ _).alloc (Nat.le_refl _) o
  go_enter Try.func52, Try.ntmps52
  go_wp2_with fail
  refine (CheckLoads_1 ⟨600, 240, 500, 1500⟩ ⟨1925230, 1925230, 0, 0⟩ _ _ _ _ _ (by decide) (HT.out.below (hX _)) (HL.out.below (hX _))).mono ?_
  rintro e v1 ⟨rfl, hb1⟩
  have a0 : v1.cell? ⟨w.heap.size, 0, none⟩ = some (.int .i64 0) := by rw [(bcell hb1).1 _ _ (by simp)]; simp [go_sem]
  have a1 : v1.cell? ⟨w.heap.size, 1, none⟩ = some (.int .i64 0) := by rw [(bcell hb1).1 _ _ (by simp)]; simp [go_sem]
  have af : ∀ j, v1.frozen? ⟨w.heap.size, j, none⟩ = false := fun j => by rw [(bcell hb1).2 _ _ (by simp)]; simp [go_sem]
  have hz1 : w.heap.size + 1 ≤ v1.heap.size := by have := hb1.size; simpa using this
  have hB1 : Below w.heap.size w v1 := (hX _).trans (hb1.mono (hX _).size)
  clear hb1 hX
  go_wp2_with fail
  refine (checkFactor_x 500 _ (by decide)).mono ?_
  rintro e v2 ⟨rfl, rfl⟩
  go_wp2_with fail
  refine (first00 _ _ (by simp [go_sem]) (by simp [go_sem])).mono ?_
  rintro e v2 ⟨rfl, rfl⟩
  generalize hw2 : v1.alloc (.cells #[.int .i64 0, .int .i64 0] 25) = w2
  have hb2 : Below v1.heap.size v1 w2 := by rw [← hw2]; exact (Below.refl _ _).alloc (Nat.le_refl _) _
  have hz2 : w.heap.size + 1 < w2.heap.size := by rw [← hw2]; simp; omega
  have hB2 : Below w.heap.size w w2 := hB1.trans (hb2.mono hB1.size)
  have c0 : w2.cell? ⟨w.heap.size, 0, none⟩ = some (.int .i64 0) := (hb2.cell (p := ⟨w.heap.size, 0, none⟩) (by show w.heap.size < _; omega)).trans a0
  have c1 : w2.cell? ⟨w.heap.size, 1, none⟩ = some (.int .i64 0) := (hb2.cell (p := ⟨w.heap.size, 1, none⟩) (by show w.heap.size < _; omega)).trans a1
  have cf : ∀ j, w2.frozen? ⟨w.heap.size, j, none⟩ = false := fun j => (hb2.frozen (p := ⟨w.heap.size, j, none⟩) (by show w.heap.size < _; omega)).trans (af j)
  have G : ∀ {b i : Nat}, b < w.heap.size → w2.cell? ⟨b, i, none⟩ = w.cell? ⟨b, i, none⟩ := fun {b i} h => hB2.cell (p := ⟨b, i, none⟩) h
  obtain ⟨g0', g1', g2', g3', p0', p1', p2', p3'⟩ := HG.out
  have g0 := (G (i := to) htb).trans g0'
  have g1 := (G (i := to + 1) htb).trans g1'
  have g2 := (G (i := to + 2) htb).trans g2'
  have g3 := (G (i := to + 3) htb).trans g3'
  have p0 := (G (i := qo) hq0).trans p0'
  have p1 := (G (i := qo + 1) hq0).trans p1'
  have p2 := (G (i := qo + 2) hq0).trans p2'
  have p3 := (G (i := qo + 3) hq0).trans p3'
  clear hw2 hb2 G g0' g1' g2' g3' p0' p1' p2' p3' a0 a1 af
  have l1 : tb < w2.heap.size := by omega
  have l2 : q0 < w2.heap.size := by omega
  have l3 : w.heap.size < w2.heap.size := by omega
  go_wp2_with fail
  generalize hw3 : w2.alloc (.cells #[.int .i64 0, .int .i64 0] 24) = w3
  have hb3 : Below w2.heap.size w2 w3 := by rw [← hw3]; exact (Below.refl _ _).alloc (Nat.le_refl _) _
  have d0 : w3.cell? ⟨w2.heap.size, 0, none⟩ = some (.int .i64 0) := by rw [← hw3]; simp [go_sem]
  have d1 : w3.cell? ⟨w2.heap.size, 1, none⟩ = some (.int .i64 0) := by rw [← hw3]; simp [go_sem]
  have df : ∀ j, w3.frozen? ⟨w2.heap.size, j, none⟩ = false := by rw [← hw3]; intro j; simp [go_sem]
  have l9 : w2.heap.size < w3.heap.size := by rw [← hw3]; simp
  generalize hb9 : w2.heap.size = b9 at *
  have hB3 : Below w.heap.size w w3 := hB2.trans (hb3.mono (by omega))
  have hbn : w.heap.size < b9 := by omega
  have G : ∀ {b i : Nat} {v : Value}, b < b9 → w2.cell? ⟨b, i, none⟩ = some v → w3.cell? ⟨b, i, none⟩ = some v := fun {b i v} h e => (hb3.cell (p := ⟨b, i, none⟩) h).trans e
  have cf3 : ∀ j, w3.frozen? ⟨w.heap.size, j, none⟩ = false := fun j => (hb3.frozen (p := ⟨w.heap.size, j, none⟩) hbn).trans (cf j)
  replace g0 := G l1 g0
  replace g1 := G l1 g1
  replace g2 := G l1 g2
  replace g3 := G l1 g3
  replace p0 := G l2 p0
  replace p1 := G l2 p1
  replace p2 := G l2 p2
  replace p3 := G l2 p3
  replace c0 := G hbn c0
  replace c1 := G hbn c1
  have m1 : tb < w3.heap.size := by omega
  have m2 : q0 < w3.heap.size := by omega
  have m3 : w.heap.size < w3.heap.size := by omega
  clear hw3 hb3 G cf hB2 hb9 l1 l2 l3 hz2 hB1 hz1
  refine wp_loop_rounds 2 ?_
  rw [rounds_succ]
  go_upto_region 8 with (fail)
  generalize hw4 : w3.alloc (.cells #[.int .i64 600, .int .i64 240, .int .i64 500, .int .i64 1500] 78) = w4
  have hb4 : Below w3.heap.size w3 w4 := by rw [← hw4]; exact (Below.refl _ _).alloc (Nat.le_refl _) _
  have e0 : w4.cell? ⟨w3.heap.size, 0, none⟩ = some (.int .i64 600) := by rw [← hw4]; simp [go_sem]
  have e1 : w4.cell? ⟨w3.heap.size, 1, none⟩ = some (.int .i64 240) := by rw [← hw4]; simp [go_sem]
  have e2 : w4.cell? ⟨w3.heap.size, 2, none⟩ = some (.int .i64 500) := by rw [← hw4]; simp [go_sem]
  have e3 : w4.cell? ⟨w3.heap.size, 3, none⟩ = some (.int .i64 1500) := by rw [← hw4]; simp [go_sem]
  have l11 : w3.heap.size < w4.heap.size := by rw [← hw4]; simp
  have hB4 : Below w.heap.size w w4 := hB3.trans (hb4.mono (by omega))
  have G : ∀ {b i : Nat} {v : Value}, b < w3.heap.size → w3.cell? ⟨b, i, none⟩ = some v → w4.cell? ⟨b, i, none⟩ = some v := fun {b i v} h e => (hb4.cell (p := ⟨b, i, none⟩) h).trans e
  have G9 := Lib.hid (And.intro (G l9 d0) (And.intro (G l9 d1) (And.intro (G m3 c0) (G m3 c1))))
  have F9 := Lib.hid (And.intro (fun j => (hb4.frozen (p := ⟨b9, j, none⟩) l9).trans (df j)) (fun j => (hb4.frozen (p := ⟨w.heap.size, j, none⟩) m3).trans (cf3 j)))
  replace p0 := G m2 p0
  replace p1 := G m2 p1
  replace p2 := G m2 p2
  replace p3 := G m2 p3
  have mq : q0 < w4.heap.size := by omega
  have l94 : b9 < w4.heap.size := by omega
  have lw4 : w.heap.size < w4.heap.size := by omega
  clear hw4 hb4 G g0 g1 g2 g3 c0 c1 d0 d1 df cf3 m1 m2 m3 hB3
  go_cut [12, 13, 25, 26, 27] from 14 (fun s12 s13 s25 s26 s27 wx => s25 = .slice (some ⟨tb, to, none⟩) 1 tcap ∧ s26 = .int .i64 1 ∧ s27 = .int .i64 0 ∧ R8 w4 250000000 1250000 1925230 1925230 s12 s13 wx)
  case first =>
    have HS : ∀ w', Below w4.heap.size w4 w' → w'.cell? ⟨w3.heap.size, 0, none⟩ = some (.int .i64 600) ∧ w'.cell? ⟨w3.heap.size, 1, none⟩ = some (.int .i64 240) ∧ w'.cell? ⟨w3.heap.size, 2, none⟩ = some (.int .i64 500) ∧ w'.cell? ⟨w3.heap.size, 3, none⟩ = some (.int .i64 1500) ∧ w'.cell? ⟨q0, qo, none⟩ = some (.int .i64 1925230) ∧ w'.cell? ⟨q0, qo + 1, none⟩ = some (.int .i64 1925230) ∧ w'.cell? ⟨q0, qo + 2, none⟩ = some (.int .i64 0) ∧ w'.cell? ⟨q0, qo + 3, none⟩ = some (.int .i64 0) := fun w' hb => ⟨(hb.cell (p := ⟨w3.heap.size, 0, none⟩) l11).trans e0, (hb.cell (p := ⟨w3.heap.size, 1, none⟩) l11).trans e1, (hb.cell (p := ⟨w3.heap.size, 2, none⟩) l11).trans e2, (hb.cell (p := ⟨w3.heap.size, 3, none⟩) l11).trans e3, (hb.cell (p := ⟨q0, qo, none⟩) mq).trans p0, (hb.cell (p := ⟨q0, qo + 1, none⟩) mq).trans p1, (hb.cell (p := ⟨q0, qo + 2, none⟩) mq).trans p2, (hb.cell (p := ⟨q0, qo + 3, none⟩) mq).trans p3⟩
    have HS' := Lib.hid HS
    clear HS e0 e1 e2 e3 p0 p1 p2 p3 HT HL HG G9 F9
    refine wp_region_held_drew (S := (fun w' => w'.cell? ⟨w3.heap.size, 0, none⟩ = some (.int .i64 600) ∧ w'.cell? ⟨w3.heap.size, 1, none⟩ = some (.int .i64 240) ∧ w'.cell? ⟨w3.heap.size, 2, none⟩ = some (.int .i64 500) ∧ w'.cell? ⟨w3.heap.size, 3, none⟩ = some (.int .i64 1500) ∧ w'.cell? ⟨q0, qo, none⟩ = some (.int .i64 1925230) ∧ w'.cell? ⟨q0, qo + 1, none⟩ = some (.int .i64 1925230) ∧ w'.cell? ⟨q0, qo + 2, none⟩ = some (.int .i64 0) ∧ w'.cell? ⟨q0, qo + 3, none⟩ = some (.int .i64 0))) (by kernel_rfl) (by exact HS'.out _ (Below.refl w4.heap.size w4).drew) (fun hHeld => ?_)
    refine wpAnyH_take (i := 0) (oi := ⟨some 32, _, _, _, _, _⟩) (v := ?_) rfl (by kernel_rfl) (by kernel_rfl) (by kernel_rfl) (fun _ _ _ h => h) (Or.inl ⟨by kernel_rfl, ?_⟩) (by assumption) ?_
    rotate_left
    · (intro w hSw; (try dsimp only at hSw); go_simp; all_goals with_reducible rfl)
    try simp only [Act.put, List.setIfInBounds_toArray, List.set_cons_zero, List.set_cons_succ]
    refine wpAnyH_take (i := 1) (oi := ⟨some 33, _, _, _, _, _⟩) (v := ?_) rfl (by kernel_rfl) (by kernel_rfl) (by kernel_rfl) (fun _ _ _ h => h) (Or.inl ⟨by kernel_rfl, ?_⟩) (by assumption) ?_
    rotate_left
    · (intro w hSw; (try dsimp only at hSw); go_simp; all_goals with_reducible rfl)
    try simp only [Act.put, List.setIfInBounds_toArray, List.set_cons_zero, List.set_cons_succ]
    refine wpAnyH_take (i := 3) (oi := ⟨some 35, _, _, _, _, _⟩) (v := ?_) rfl (by kernel_rfl) (by kernel_rfl) (by kernel_rfl) (fun _ _ _ h => h) (Or.inl ⟨by kernel_rfl, ?_⟩) (by assumption) ?_
    rotate_left
    · (intro w hSw; (try dsimp only at hSw); go_simp; all_goals with_reducible rfl)
    try simp only [Act.put, List.setIfInBounds_toArray, List.set_cons_zero, List.set_cons_succ]
    refine wpAnyH_take (i := 4) (oi := ⟨some 36, _, _, _, _, _⟩) (v := ?_) rfl (by kernel_rfl) (by kernel_rfl) (by kernel_rfl) (fun _ _ _ h => h) (Or.inl ⟨by kernel_rfl, ?_⟩) (by assumption) ?_
    rotate_left
    · (intro w hSw; (try dsimp only at hSw); go_simp; all_goals with_reducible rfl)
    try simp only [Act.put, List.setIfInBounds_toArray, List.set_cons_zero, List.set_cons_succ]
    refine wpAnyH_take (i := 5) (oi := ⟨some 37, _, _, _, _, _⟩) (v := ?_) rfl (by kernel_rfl) (by kernel_rfl) (by kernel_rfl) (fun _ _ _ h => h) (Or.inl ⟨by kernel_rfl, ?_⟩) (by assumption) ?_
    rotate_left
    · (intro w hSw; (try dsimp only at hSw); go_simp; all_goals with_reducible rfl)
    try simp only [Act.put, List.setIfInBounds_toArray, List.set_cons_zero, List.set_cons_succ]
    refine wpAnyH_take (i := 6) (oi := ⟨some 38, _, _, _, _, _⟩) (v := ?_) rfl (by kernel_rfl) (by kernel_rfl) (by kernel_rfl) (fun _ _ _ h => h) (Or.inl ⟨by kernel_rfl, ?_⟩) (by assumption) ?_
    rotate_left
    · (intro w hSw; (try dsimp only at hSw); go_simp; all_goals with_reducible rfl)
    try simp only [Act.put, List.setIfInBounds_toArray, List.set_cons_zero, List.set_cons_succ]
    have hB0 : Below w4.heap.size w4 w4.drew := (Below.refl w4.heap.size w4).drew
    generalize hdr : w4.drew = u0 at *
    clear hdr
    refine wpAnyH_ready (rs := [2, 8, 9]) (by kernel_rfl) (by simp) ?_
    refine AllReadyH.cons rfl (fun K hK => ?_) (AllReadyH.cons rfl (fun K hK => ?_) (AllReadyH.cons rfl (fun K hK => ?_) (AllReadyH.nil)))
    · skip
      go_simp
      refine (limitOf_x 600 240 500 1500 500 250000000 1250000 _ (by decide) (by decide) (by decide) (by decide) (by decide)).mono ?_
      rintro e u1 ⟨rfl, hb1⟩
      have hB1 : Below w4.heap.size w4 u1 := (hB0).trans (hb1.mono (hB0).size)
      go_wp2_with fail
      refine hK.out _ _ (HS'.out _ (hB1)) (fun hHeld => ?_)
      clear hK K
      try simp only [Act.put, List.setIfInBounds_toArray, List.set_cons_zero, List.set_cons_succ]
      refine wpAnyH_ready (rs := [7, 8, 9]) (by kernel_rfl) (by simp) ?_
      refine AllReadyH.cons rfl (fun K hK => ?_) (AllReadyH.cons rfl (fun K hK => ?_) (AllReadyH.cons rfl (fun K hK => ?_) (AllReadyH.nil)))
      · skip
        go_simp
        refine (endsOf_x 1925230 1925230 0 0 1925230 1925230 _ (by decide) (by decide) (by decide) (by decide) (by decide) (by decide)).mono ?_
        rintro e u2 ⟨rfl, hb2⟩
        have hB2 : Below w4.heap.size w4 u2 := (hB1).trans (hb2.mono (hB1).size)
        go_wp2_with fail
        refine hK.out _ _ (HS'.out _ (hB2)) (fun hHeld => ?_)
        clear hK K
        try simp only [Act.put, List.setIfInBounds_toArray, List.set_cons_zero, List.set_cons_succ]
        refine wpAnyH_ready (rs := [8, 9]) (by kernel_rfl) (by simp) ?_
        refine AllReadyH.cons rfl (fun K hK => ?_) (AllReadyH.cons rfl (fun K hK => ?_) (AllReadyH.nil))
        · skip
          go_simp
          go_wp2_with fail
          refine hK.out _ _ (HS'.out _ ((hB2).alloc (hB2).size _)) (fun hHeld => ?_)
          clear hK K
          try simp only [Act.put, List.setIfInBounds_toArray, List.set_cons_zero, List.set_cons_succ]
          generalize hq3 : u2.alloc (.cells #[.int .i64 0, .int .i64 0] 145) = u3
          have hb3 : Below u2.heap.size u2 u3 := by rw [← hq3]; exact (Below.refl _ _).alloc (Nat.le_refl _) _
          have hB3 : Below w4.heap.size w4 u3 := (hB2).trans (hb3.mono (hB2).size)
          have h8_3 : (∀ i, i < 2 → ∃ v, u3.cell? ⟨u2.heap.size, i, none⟩ = some v) ∧ (∀ j, u3.frozen? ⟨u2.heap.size, j, none⟩ = false) := by rw [← hq3]; exact new2_is u2 _ _ _
          have q8_3 : u2.heap.size < u3.heap.size := by rw [← hq3]; simp
          have g8 : w4.heap.size ≤ u2.heap.size := (hB2).size
          clear hq3
          refine wpAnyH_ready (rs := [9]) (by kernel_rfl) (by simp) ?_
          refine AllReadyH.cons rfl (fun K hK => ?_) (AllReadyH.nil)
          go_simp
          go_wp2_with fail
          refine hK.out _ _ (HS'.out _ ((hB3).alloc (hB3).size _)) (fun hHeld => ?_)
          clear hK K
          try simp only [Act.put, List.setIfInBounds_toArray, List.set_cons_zero, List.set_cons_succ]
          generalize hq4 : u3.alloc (.cells #[.int .i64 0, .int .i64 0] 32) = u4
          have hb4 : Below u3.heap.size u3 u4 := by rw [← hq4]; exact (Below.refl _ _).alloc (Nat.le_refl _) _
          have hB4 : Below w4.heap.size w4 u4 := (hB3).trans (hb4.mono (hB3).size)
          have h8_4 := has2_below (b := u2.heap.size) h8_3 hb4 q8_3
          have q8_4 : u2.heap.size < u4.heap.size := Nat.lt_of_lt_of_le q8_3 hb4.size
          have h9_4 : (∀ i, i < 2 → ∃ v, u4.cell? ⟨u3.heap.size, i, none⟩ = some v) ∧ (∀ j, u4.frozen? ⟨u3.heap.size, j, none⟩ = false) := by rw [← hq4]; exact new2_is u3 _ _ _
          have q9_4 : u3.heap.size < u4.heap.size := by rw [← hq4]; simp
          have g9 : w4.heap.size ≤ u3.heap.size := (hB3).size
          clear hq4
          obtain ⟨⟨ev0, e0⟩, ⟨ev1, e1⟩⟩ := And.intro (h8_4.1 0 (by omega)) (h8_4.1 1 (by omega))
          have ef := h8_4.2
          refine wpAnyH_ready (rs := [10]) (by kernel_rfl) (by simp) ?_
          refine AllReadyH.cons rfl (fun K hK => ?_) (AllReadyH.nil)
          go_simp
          go_wp2_with fail
          refine hK.out _ _ (HS'.out _ (set2_below hB4 g8)) (fun hHeld => ?_)
          clear hK K
          try simp only [Act.put, List.setIfInBounds_toArray, List.set_cons_zero, List.set_cons_succ]
          have HH := set2_is (X := u4) (b := u2.heap.size) (.int .i64 250000000) (.int .i64 1250000) h8_4.1 h8_4.2
          unfold set2 at HH
          have hBs : Below w4.heap.size w4 (set2 u4 u2.heap.size (.int .i64 250000000) (.int .i64 1250000)) := set2_below hB4 g8
          unfold set2 at hBs
          generalize hs1 : (u4.setCell ⟨u2.heap.size, 0, none⟩ (.int .i64 250000000)).setCell ⟨u2.heap.size, 1, none⟩ (.int .i64 1250000) = x1 at *
          obtain ⟨t0, t1, t5, t6, t7, t8⟩ := HH
          have hnn : u2.heap.size ≠ u3.heap.size := by omega
          have hn2 : u3.heap.size ≠ u2.heap.size := by omega
          have hs13 : (∀ i, i < 2 → ∃ v, x1.cell? ⟨u3.heap.size, i, none⟩ = some v) ∧ (∀ j, x1.frozen? ⟨u3.heap.size, j, none⟩ = false) := ⟨fun i hi => by obtain ⟨v, hv⟩ := h9_4.1 i hi; exact ⟨v, (t6 _ _ hn2).trans hv⟩, fun j => (World.frozen?_of_block (a := ⟨u3.heap.size, j, none⟩) (t7 _ hn2)).trans (h9_4.2 j)⟩
          obtain ⟨⟨av0, a0⟩, ⟨av1, a1⟩⟩ := And.intro (hs13.1 0 (by omega)) (hs13.1 1 (by omega))
          have af := hs13.2
          have k12 : u2.heap.size < x1.heap.size := by rw [t8]; exact q8_4
          have k13 : u3.heap.size < x1.heap.size := by rw [t8]; exact q9_4
          have T0 := Lib.hid t0
          have T1 := Lib.hid t1
          clear t0 t1 t5 t6 t7 t8 hs1 e0 e1 ef
          refine wpAnyH_ready (rs := [11]) (by kernel_rfl) (by simp) ?_
          refine AllReadyH.cons rfl (fun K hK => ?_) (AllReadyH.nil)
          go_simp
          go_wp2_with fail
          refine hK.out _ _ (HS'.out _ (set2_below hBs g9)) (fun hHeld => ?_)
          clear hK K
          try simp only [Act.put, List.setIfInBounds_toArray, List.set_cons_zero, List.set_cons_succ]
          refine wpAnyH_done (by kernel_rfl) ?_ _
          go_wp2_with fail
          go_meet
          exact ⟨rfl, rfl, rfl, R8.of hBs g8 k12 g9 k13 hnn T0.out T1.out hs13⟩
        · skip
          go_simp
          go_wp2_with fail
          refine hK.out _ _ (HS'.out _ ((hB2).alloc (hB2).size _)) (fun hHeld => ?_)
          clear hK K
          try simp only [Act.put, List.setIfInBounds_toArray, List.set_cons_zero, List.set_cons_succ]
          generalize hq3 : u2.alloc (.cells #[.int .i64 0, .int .i64 0] 32) = u3
          have hb3 : Below u2.heap.size u2 u3 := by rw [← hq3]; exact (Below.refl _ _).alloc (Nat.le_refl _) _
          have hB3 : Below w4.heap.size w4 u3 := (hB2).trans (hb3.mono (hB2).size)
          have h9_3 : (∀ i, i < 2 → ∃ v, u3.cell? ⟨u2.heap.size, i, none⟩ = some v) ∧ (∀ j, u3.frozen? ⟨u2.heap.size, j, none⟩ = false) := by rw [← hq3]; exact new2_is u2 _ _ _
          have q9_3 : u2.heap.size < u3.heap.size := by rw [← hq3]; simp
          have g9 : w4.heap.size ≤ u2.heap.size := (hB2).size
          clear hq3
          refine wpAnyH_ready (rs := [8]) (by kernel_rfl) (by simp) ?_
          refine AllReadyH.cons rfl (fun K hK => ?_) (AllReadyH.nil)
          go_simp
          go_wp2_with fail
          refine hK.out _ _ (HS'.out _ ((hB3).alloc (hB3).size _)) (fun hHeld => ?_)
          clear hK K
          try simp only [Act.put, List.setIfInBounds_toArray, List.set_cons_zero, List.set_cons_succ]
          generalize hq4 : u3.alloc (.cells #[.int .i64 0, .int .i64 0] 145) = u4
          have hb4 : Below u3.heap.size u3 u4 := by rw [← hq4]; exact (Below.refl _ _).alloc (Nat.le_refl _) _
          have hB4 : Below w4.heap.size w4 u4 := (hB3).trans (hb4.mono (hB3).size)
          have h9_4 := has2_below (b := u2.heap.size) h9_3 hb4 q9_3
          have q9_4 : u2.heap.size < u4.heap.size := Nat.lt_of_lt_of_le q9_3 hb4.size
          have h8_4 : (∀ i, i < 2 → ∃ v, u4.cell? ⟨u3.heap.size, i, none⟩ = some v) ∧ (∀ j, u4.frozen? ⟨u3.heap.size, j, none⟩ = false) := by rw [← hq4]; exact new2_is u3 _ _ _
          have q8_4 : u3.heap.size < u4.heap.size := by rw [← hq4]; simp
          have g8 : w4.heap.size ≤ u3.heap.size := (hB3).size
          clear hq4
          obtain ⟨⟨ev0, e0⟩, ⟨ev1, e1⟩⟩ := And.intro (h8_4.1 0 (by omega)) (h8_4.1 1 (by omega))
          have ef := h8_4.2
          refine wpAnyH_ready (rs := [10]) (by kernel_rfl) (by simp) ?_
          refine AllReadyH.cons rfl (fun K hK => ?_) (AllReadyH.nil)
          go_simp
          go_wp2_with fail
          refine hK.out _ _ (HS'.out _ (set2_below hB4 g8)) (fun hHeld => ?_)
          clear hK K
          try simp only [Act.put, List.setIfInBounds_toArray, List.set_cons_zero, List.set_cons_succ]
          have HH := set2_is (X := u4) (b := u3.heap.size) (.int .i64 250000000) (.int .i64 1250000) h8_4.1 h8_4.2
          unfold set2 at HH
          have hBs : Below w4.heap.size w4 (set2 u4 u3.heap.size (.int .i64 250000000) (.int .i64 1250000)) := set2_below hB4 g8
          unfold set2 at hBs
          generalize hs1 : (u4.setCell ⟨u3.heap.size, 0, none⟩ (.int .i64 250000000)).setCell ⟨u3.heap.size, 1, none⟩ (.int .i64 1250000) = x1 at *
          obtain ⟨t0, t1, t5, t6, t7, t8⟩ := HH
          have hnn : u3.heap.size ≠ u2.heap.size := by omega
          have hn2 : u2.heap.size ≠ u3.heap.size := by omega
          have hs13 : (∀ i, i < 2 → ∃ v, x1.cell? ⟨u2.heap.size, i, none⟩ = some v) ∧ (∀ j, x1.frozen? ⟨u2.heap.size, j, none⟩ = false) := ⟨fun i hi => by obtain ⟨v, hv⟩ := h9_4.1 i hi; exact ⟨v, (t6 _ _ hn2).trans hv⟩, fun j => (World.frozen?_of_block (a := ⟨u2.heap.size, j, none⟩) (t7 _ hn2)).trans (h9_4.2 j)⟩
          obtain ⟨⟨av0, a0⟩, ⟨av1, a1⟩⟩ := And.intro (hs13.1 0 (by omega)) (hs13.1 1 (by omega))
          have af := hs13.2
          have k12 : u3.heap.size < x1.heap.size := by rw [t8]; exact q8_4
          have k13 : u2.heap.size < x1.heap.size := by rw [t8]; exact q9_4
          have T0 := Lib.hid t0
          have T1 := Lib.hid t1
          clear t0 t1 t5 t6 t7 t8 hs1 e0 e1 ef
          refine wpAnyH_ready (rs := [11]) (by kernel_rfl) (by simp) ?_
          refine AllReadyH.cons rfl (fun K hK => ?_) (AllReadyH.nil)
          go_simp
          go_wp2_with fail
          refine hK.out _ _ (HS'.out _ (set2_below hBs g9)) (fun hHeld => ?_)
          clear hK K
          try simp only [Act.put, List.setIfInBounds_toArray, List.set_cons_zero, List.set_cons_succ]
          refine wpAnyH_done (by kernel_rfl) ?_ _
          go_wp2_with fail
          go_meet
          exact ⟨rfl, rfl, rfl, R8.of hBs g8 k12 g9 k13 hnn T0.out T1.out hs13⟩
      · skip
        go_simp
        go_wp2_with fail
        refine hK.out _ _ (HS'.out _ ((hB1).alloc (hB1).size _)) (fun hHeld => ?_)
        clear hK K
        try simp only [Act.put, List.setIfInBounds_toArray, List.set_cons_zero, List.set_cons_succ]
        generalize hq2 : u1.alloc (.cells #[.int .i64 0, .int .i64 0] 145) = u2
        have hb2 : Below u1.heap.size u1 u2 := by rw [← hq2]; exact (Below.refl _ _).alloc (Nat.le_refl _) _
        have hB2 : Below w4.heap.size w4 u2 := (hB1).trans (hb2.mono (hB1).size)
        have h8_2 : (∀ i, i < 2 → ∃ v, u2.cell? ⟨u1.heap.size, i, none⟩ = some v) ∧ (∀ j, u2.frozen? ⟨u1.heap.size, j, none⟩ = false) := by rw [← hq2]; exact new2_is u1 _ _ _
        have q8_2 : u1.heap.size < u2.heap.size := by rw [← hq2]; simp
        have g8 : w4.heap.size ≤ u1.heap.size := (hB1).size
        clear hq2
        refine wpAnyH_ready (rs := [7, 9]) (by kernel_rfl) (by simp) ?_
        refine AllReadyH.cons rfl (fun K hK => ?_) (AllReadyH.cons rfl (fun K hK => ?_) (AllReadyH.nil))
        · skip
          go_simp
          refine (endsOf_x 1925230 1925230 0 0 1925230 1925230 _ (by decide) (by decide) (by decide) (by decide) (by decide) (by decide)).mono ?_
          rintro e u3 ⟨rfl, hb3⟩
          have hB3 : Below w4.heap.size w4 u3 := (hB2).trans (hb3.mono (hB2).size)
          have h8_3 := has2_below (b := u1.heap.size) h8_2 hb3 q8_2
          have q8_3 : u1.heap.size < u3.heap.size := Nat.lt_of_lt_of_le q8_2 hb3.size
          go_wp2_with fail
          refine hK.out _ _ (HS'.out _ (hB3)) (fun hHeld => ?_)
          clear hK K
          try simp only [Act.put, List.setIfInBounds_toArray, List.set_cons_zero, List.set_cons_succ]
          refine wpAnyH_ready (rs := [9]) (by kernel_rfl) (by simp) ?_
          refine AllReadyH.cons rfl (fun K hK => ?_) (AllReadyH.nil)
          go_simp
          go_wp2_with fail
          refine hK.out _ _ (HS'.out _ ((hB3).alloc (hB3).size _)) (fun hHeld => ?_)
          clear hK K
          try simp only [Act.put, List.setIfInBounds_toArray, List.set_cons_zero, List.set_cons_succ]
          generalize hq4 : u3.alloc (.cells #[.int .i64 0, .int .i64 0] 32) = u4
          have hb4 : Below u3.heap.size u3 u4 := by rw [← hq4]; exact (Below.refl _ _).alloc (Nat.le_refl _) _
          have hB4 : Below w4.heap.size w4 u4 := (hB3).trans (hb4.mono (hB3).size)
          have h8_4 := has2_below (b := u1.heap.size) h8_3 hb4 q8_3
          have q8_4 : u1.heap.size < u4.heap.size := Nat.lt_of_lt_of_le q8_3 hb4.size
          have h9_4 : (∀ i, i < 2 → ∃ v, u4.cell? ⟨u3.heap.size, i, none⟩ = some v) ∧ (∀ j, u4.frozen? ⟨u3.heap.size, j, none⟩ = false) := by rw [← hq4]; exact new2_is u3 _ _ _
          have q9_4 : u3.heap.size < u4.heap.size := by rw [← hq4]; simp
          have g9 : w4.heap.size ≤ u3.heap.size := (hB3).size
          clear hq4
          obtain ⟨⟨ev0, e0⟩, ⟨ev1, e1⟩⟩ := And.intro (h8_4.1 0 (by omega)) (h8_4.1 1 (by omega))
          have ef := h8_4.2
          refine wpAnyH_ready (rs := [10]) (by kernel_rfl) (by simp) ?_
          refine AllReadyH.cons rfl (fun K hK => ?_) (AllReadyH.nil)
          go_simp
          go_wp2_with fail
          refine hK.out _ _ (HS'.out _ (set2_below hB4 g8)) (fun hHeld => ?_)
          clear hK K
          try simp only [Act.put, List.setIfInBounds_toArray, List.set_cons_zero, List.set_cons_succ]
          have HH := set2_is (X := u4) (b := u1.heap.size) (.int .i64 250000000) (.int .i64 1250000) h8_4.1 h8_4.2
          unfold set2 at HH
          have hBs : Below w4.heap.size w4 (set2 u4 u1.heap.size (.int .i64 250000000) (.int .i64 1250000)) := set2_below hB4 g8
          unfold set2 at hBs
          generalize hs1 : (u4.setCell ⟨u1.heap.size, 0, none⟩ (.int .i64 250000000)).setCell ⟨u1.heap.size, 1, none⟩ (.int .i64 1250000) = x1 at *
          obtain ⟨t0, t1, t5, t6, t7, t8⟩ := HH
          have hnn : u1.heap.size ≠ u3.heap.size := by omega
          have hn2 : u3.heap.size ≠ u1.heap.size := by omega
          have hs13 : (∀ i, i < 2 → ∃ v, x1.cell? ⟨u3.heap.size, i, none⟩ = some v) ∧ (∀ j, x1.frozen? ⟨u3.heap.size, j, none⟩ = false) := ⟨fun i hi => by obtain ⟨v, hv⟩ := h9_4.1 i hi; exact ⟨v, (t6 _ _ hn2).trans hv⟩, fun j => (World.frozen?_of_block (a := ⟨u3.heap.size, j, none⟩) (t7 _ hn2)).trans (h9_4.2 j)⟩
          obtain ⟨⟨av0, a0⟩, ⟨av1, a1⟩⟩ := And.intro (hs13.1 0 (by omega)) (hs13.1 1 (by omega))
          have af := hs13.2
          have k12 : u1.heap.size < x1.heap.size := by rw [t8]; exact q8_4
          have k13 : u3.heap.size < x1.heap.size := by rw [t8]; exact q9_4
          have T0 := Lib.hid t0
          have T1 := Lib.hid t1
          clear t0 t1 t5 t6 t7 t8 hs1 e0 e1 ef
          refine wpAnyH_ready (rs := [11]) (by kernel_rfl) (by simp) ?_
          refine AllReadyH.cons rfl (fun K hK => ?_) (AllReadyH.nil)
          go_simp
          go_wp2_with fail
          refine hK.out _ _ (HS'.out _ (set2_below hBs g9)) (fun hHeld => ?_)
          clear hK K
          try simp only [Act.put, List.setIfInBounds_toArray, List.set_cons_zero, List.set_cons_succ]
          refine wpAnyH_done (by kernel_rfl) ?_ _
          go_wp2_with fail
          go_meet
          exact ⟨rfl, rfl, rfl, R8.of hBs g8 k12 g9 k13 hnn T0.out T1.out hs13⟩
        · skip
          go_simp
          go_wp2_with fail
          refine hK.out _ _ (HS'.out _ ((hB2).alloc (hB2).size _)) (fun hHeld => ?_)
          clear hK K
          try simp only [Act.put, List.setIfInBounds_toArray, List.set_cons_zero, List.set_cons_succ]
          generalize hq3 : u2.alloc (.cells #[.int .i64 0, .int .i64 0] 32) = u3
          have hb3 : Below u2.heap.size u2 u3 := by rw [← hq3]; exact (Below.refl _ _).alloc (Nat.le_refl _) _
          have hB3 : Below w4.heap.size w4 u3 := (hB2).trans (hb3.mono (hB2).size)
          have h8_3 := has2_below (b := u1.heap.size) h8_2 hb3 q8_2
          have q8_3 : u1.heap.size < u3.heap.size := Nat.lt_of_lt_of_le q8_2 hb3.size
          have h9_3 : (∀ i, i < 2 → ∃ v, u3.cell? ⟨u2.heap.size, i, none⟩ = some v) ∧ (∀ j, u3.frozen? ⟨u2.heap.size, j, none⟩ = false) := by rw [← hq3]; exact new2_is u2 _ _ _
          have q9_3 : u2.heap.size < u3.heap.size := by rw [← hq3]; simp
          have g9 : w4.heap.size ≤ u2.heap.size := (hB2).size
          clear hq3
          refine wpAnyH_ready (rs := [7]) (by kernel_rfl) (by simp) ?_
          refine AllReadyH.cons rfl (fun K hK => ?_) (AllReadyH.nil)
          go_simp
          refine (endsOf_x 1925230 1925230 0 0 1925230 1925230 _ (by decide) (by decide) (by decide) (by decide) (by decide) (by decide)).mono ?_
          rintro e u4 ⟨rfl, hb4⟩
          have hB4 : Below w4.heap.size w4 u4 := (hB3).trans (hb4.mono (hB3).size)
          have h8_4 := has2_below (b := u1.heap.size) h8_3 hb4 q8_3
          have q8_4 : u1.heap.size < u4.heap.size := Nat.lt_of_lt_of_le q8_3 hb4.size
          have h9_4 := has2_below (b := u2.heap.size) h9_3 hb4 q9_3
          have q9_4 : u2.heap.size < u4.heap.size := Nat.lt_of_lt_of_le q9_3 hb4.size
          go_wp2_with fail
          refine hK.out _ _ (HS'.out _ (hB4)) (fun hHeld => ?_)
          clear hK K
          try simp only [Act.put, List.setIfInBounds_toArray, List.set_cons_zero, List.set_cons_succ]
          obtain ⟨⟨ev0, e0⟩, ⟨ev1, e1⟩⟩ := And.intro (h8_4.1 0 (by omega)) (h8_4.1 1 (by omega))
          have ef := h8_4.2
          refine wpAnyH_ready (rs := [10]) (by kernel_rfl) (by simp) ?_
          refine AllReadyH.cons rfl (fun K hK => ?_) (AllReadyH.nil)
          go_simp
          go_wp2_with fail
          refine hK.out _ _ (HS'.out _ (set2_below hB4 g8)) (fun hHeld => ?_)
          clear hK K
          try simp only [Act.put, List.setIfInBounds_toArray, List.set_cons_zero, List.set_cons_succ]
          have HH := set2_is (X := u4) (b := u1.heap.size) (.int .i64 250000000) (.int .i64 1250000) h8_4.1 h8_4.2
          unfold set2 at HH
          have hBs : Below w4.heap.size w4 (set2 u4 u1.heap.size (.int .i64 250000000) (.int .i64 1250000)) := set2_below hB4 g8
          unfold set2 at hBs
          generalize hs1 : (u4.setCell ⟨u1.heap.size, 0, none⟩ (.int .i64 250000000)).setCell ⟨u1.heap.size, 1, none⟩ (.int .i64 1250000) = x1 at *
          obtain ⟨t0, t1, t5, t6, t7, t8⟩ := HH
          have hnn : u1.heap.size ≠ u2.heap.size := by omega
          have hn2 : u2.heap.size ≠ u1.heap.size := by omega
          have hs13 : (∀ i, i < 2 → ∃ v, x1.cell? ⟨u2.heap.size, i, none⟩ = some v) ∧ (∀ j, x1.frozen? ⟨u2.heap.size, j, none⟩ = false) := ⟨fun i hi => by obtain ⟨v, hv⟩ := h9_4.1 i hi; exact ⟨v, (t6 _ _ hn2).trans hv⟩, fun j => (World.frozen?_of_block (a := ⟨u2.heap.size, j, none⟩) (t7 _ hn2)).trans (h9_4.2 j)⟩
          obtain ⟨⟨av0, a0⟩, ⟨av1, a1⟩⟩ := And.intro (hs13.1 0 (by omega)) (hs13.1 1 (by omega))
          have af := hs13.2
          have k12 : u1.heap.size < x1.heap.size := by rw [t8]; exact q8_4
          have k13 : u2.heap.size < x1.heap.size := by rw [t8]; exact q9_4
          have T0 := Lib.hid t0
          have T1 := Lib.hid t1
          clear t0 t1 t5 t6 t7 t8 hs1 e0 e1 ef
          refine wpAnyH_ready (rs := [11]) (by kernel_rfl) (by simp) ?_
          refine AllReadyH.cons rfl (fun K hK => ?_) (AllReadyH.nil)
          go_simp
          go_wp2_with fail
          refine hK.out _ _ (HS'.out _ (set2_below hBs g9)) (fun hHeld => ?_)
          clear hK K
          try simp only [Act.put, List.setIfInBounds_toArray, List.set_cons_zero, List.set_cons_succ]
          refine wpAnyH_done (by kernel_rfl) ?_ _
          go_wp2_with fail
          go_meet
          exact ⟨rfl, rfl, rfl, R8.of hBs g8 k12 g9 k13 hnn T0.out T1.out hs13⟩
      · skip
        go_simp
        go_wp2_with fail
        refine hK.out _ _ (HS'.out _ ((hB1).alloc (hB1).size _)) (fun hHeld => ?_)
        clear hK K
        try simp only [Act.put, List.setIfInBounds_toArray, List.set_cons_zero, List.set_cons_succ]
        generalize hq2 : u1.alloc (.cells #[.int .i64 0, .int .i64 0] 32) = u2
        have hb2 : Below u1.heap.size u1 u2 := by rw [← hq2]; exact (Below.refl _ _).alloc (Nat.le_refl _) _
        have hB2 : Below w4.heap.size w4 u2 := (hB1).trans (hb2.mono (hB1).size)
        have h9_2 : (∀ i, i < 2 → ∃ v, u2.cell? ⟨u1.heap.size, i, none⟩ = some v) ∧ (∀ j, u2.frozen? ⟨u1.heap.size, j, none⟩ = false) := by rw [← hq2]; exact new2_is u1 _ _ _
        have q9_2 : u1.heap.size < u2.heap.size := by rw [← hq2]; simp
        have g9 : w4.heap.size ≤ u1.heap.size := (hB1).size
        clear hq2
        refine wpAnyH_ready (rs := [7, 8]) (by kernel_rfl) (by simp) ?_
        refine AllReadyH.cons rfl (fun K hK => ?_) (AllReadyH.cons rfl (fun K hK => ?_) (AllReadyH.nil))
        · skip
          go_simp
          refine (endsOf_x 1925230 1925230 0 0 1925230 1925230 _ (by decide) (by decide) (by decide) (by decide) (by decide) (by decide)).mono ?_
          rintro e u3 ⟨rfl, hb3⟩
          have hB3 : Below w4.heap.size w4 u3 := (hB2).trans (hb3.mono (hB2).size)
          have h9_3 := has2_below (b := u1.heap.size) h9_2 hb3 q9_2
          have q9_3 : u1.heap.size < u3.heap.size := Nat.lt_of_lt_of_le q9_2 hb3.size
          go_wp2_with fail
          refine hK.out _ _ (HS'.out _ (hB3)) (fun hHeld => ?_)
          clear hK K
          try simp only [Act.put, List.setIfInBounds_toArray, List.set_cons_zero, List.set_cons_succ]
          refine wpAnyH_ready (rs := [8]) (by kernel_rfl) (by simp) ?_
          refine AllReadyH.cons rfl (fun K hK => ?_) (AllReadyH.nil)
          go_simp
          go_wp2_with fail
          refine hK.out _ _ (HS'.out _ ((hB3).alloc (hB3).size _)) (fun hHeld => ?_)
          clear hK K
          try simp only [Act.put, List.setIfInBounds_toArray, List.set_cons_zero, List.set_cons_succ]
          generalize hq4 : u3.alloc (.cells #[.int .i64 0, .int .i64 0] 145) = u4
          have hb4 : Below u3.heap.size u3 u4 := by rw [← hq4]; exact (Below.refl _ _).alloc (Nat.le_refl _) _
          have hB4 : Below w4.heap.size w4 u4 := (hB3).trans (hb4.mono (hB3).size)
          have h9_4 := has2_below (b := u1.heap.size) h9_3 hb4 q9_3
          have q9_4 : u1.heap.size < u4.heap.size := Nat.lt_of_lt_of_le q9_3 hb4.size
          have h8_4 : (∀ i, i < 2 → ∃ v, u4.cell? ⟨u3.heap.size, i, none⟩ = some v) ∧ (∀ j, u4.frozen? ⟨u3.heap.size, j, none⟩ = false) := by rw [← hq4]; exact new2_is u3 _ _ _
          have q8_4 : u3.heap.size < u4.heap.size := by rw [← hq4]; simp
          have g8 : w4.heap.size ≤ u3.heap.size := (hB3).size
          clear hq4
          obtain ⟨⟨ev0, e0⟩, ⟨ev1, e1⟩⟩ := And.intro (h8_4.1 0 (by omega)) (h8_4.1 1 (by omega))
          have ef := h8_4.2
          refine wpAnyH_ready (rs := [10]) (by kernel_rfl) (by simp) ?_
          refine AllReadyH.cons rfl (fun K hK => ?_) (AllReadyH.nil)
          go_simp
          go_wp2_with fail
          refine hK.out _ _ (HS'.out _ (set2_below hB4 g8)) (fun hHeld => ?_)
          clear hK K
          try simp only [Act.put, List.setIfInBounds_toArray, List.set_cons_zero, List.set_cons_succ]
          have HH := set2_is (X := u4) (b := u3.heap.size) (.int .i64 250000000) (.int .i64 1250000) h8_4.1 h8_4.2
          unfold set2 at HH
          have hBs : Below w4.heap.size w4 (set2 u4 u3.heap.size (.int .i64 250000000) (.int .i64 1250000)) := set2_below hB4 g8
          unfold set2 at hBs
          generalize hs1 : (u4.setCell ⟨u3.heap.size, 0, none⟩ (.int .i64 250000000)).setCell ⟨u3.heap.size, 1, none⟩ (.int .i64 1250000) = x1 at *
          obtain ⟨t0, t1, t5, t6, t7, t8⟩ := HH
          have hnn : u3.heap.size ≠ u1.heap.size := by omega
          have hn2 : u1.heap.size ≠ u3.heap.size := by omega
          have hs13 : (∀ i, i < 2 → ∃ v, x1.cell? ⟨u1.heap.size, i, none⟩ = some v) ∧ (∀ j, x1.frozen? ⟨u1.heap.size, j, none⟩ = false) := ⟨fun i hi => by obtain ⟨v, hv⟩ := h9_4.1 i hi; exact ⟨v, (t6 _ _ hn2).trans hv⟩, fun j => (World.frozen?_of_block (a := ⟨u1.heap.size, j, none⟩) (t7 _ hn2)).trans (h9_4.2 j)⟩
          obtain ⟨⟨av0, a0⟩, ⟨av1, a1⟩⟩ := And.intro (hs13.1 0 (by omega)) (hs13.1 1 (by omega))
          have af := hs13.2
          have k12 : u3.heap.size < x1.heap.size := by rw [t8]; exact q8_4
          have k13 : u1.heap.size < x1.heap.size := by rw [t8]; exact q9_4
          have T0 := Lib.hid t0
          have T1 := Lib.hid t1
          clear t0 t1 t5 t6 t7 t8 hs1 e0 e1 ef
          refine wpAnyH_ready (rs := [11]) (by kernel_rfl) (by simp) ?_
          refine AllReadyH.cons rfl (fun K hK => ?_) (AllReadyH.nil)
          go_simp
          go_wp2_with fail
          refine hK.out _ _ (HS'.out _ (set2_below hBs g9)) (fun hHeld => ?_)
          clear hK K
          try simp only [Act.put, List.setIfInBounds_toArray, List.set_cons_zero, List.set_cons_succ]
          refine wpAnyH_done (by kernel_rfl) ?_ _
          go_wp2_with fail
          go_meet
          exact ⟨rfl, rfl, rfl, R8.of hBs g8 k12 g9 k13 hnn T0.out T1.out hs13⟩
        · skip
          go_simp
          go_wp2_with fail
          refine hK.out _ _ (HS'.out _ ((hB2).alloc (hB2).size _)) (fun hHeld => ?_)
          clear hK K
          try simp only [Act.put, List.setIfInBounds_toArray, List.set_cons_zero, List.set_cons_succ]
          generalize hq3 : u2.alloc (.cells #[.int .i64 0, .int .i64 0] 145) = u3
          have hb3 : Below u2.heap.size u2 u3 := by rw [← hq3]; exact (Below.refl _ _).alloc (Nat.le_refl _) _
          have hB3 : Below w4.heap.size w4 u3 := (hB2).trans (hb3.mono (hB2).size)
          have h9_3 := has2_below (b := u1.heap.size) h9_2 hb3 q9_2
          have q9_3 : u1.heap.size < u3.heap.size := Nat.lt_of_lt_of_le q9_2 hb3.size
          have h8_3 : (∀ i, i < 2 → ∃ v, u3.cell? ⟨u2.heap.size, i, none⟩ = some v) ∧ (∀ j, u3.frozen? ⟨u2.heap.size, j, none⟩ = false) := by rw [← hq3]; exact new2_is u2 _ _ _
          have q8_3 : u2.heap.size < u3.heap.size := by rw [← hq3]; simp
          have g8 : w4.heap.size ≤ u2.heap.size := (hB2).size
          clear hq3
          refine wpAnyH_ready (rs := [7]) (by kernel_rfl) (by simp) ?_
          refine AllReadyH.cons rfl (fun K hK => ?_) (AllReadyH.nil)
          go_simp
          refine (endsOf_x 1925230 1925230 0 0 1925230 1925230 _ (by decide) (by decide) (by decide) (by decide) (by decide) (by decide)).mono ?_
          rintro e u4 ⟨rfl, hb4⟩
          have hB4 : Below w4.heap.size w4 u4 := (hB3).trans (hb4.mono (hB3).size)
          have h9_4 := has2_below (b := u1.heap.size) h9_3 hb4 q9_3
          have q9_4 : u1.heap.size < u4.heap.size := Nat.lt_of_lt_of_le q9_3 hb4.size
          have h8_4 := has2_below (b := u2.heap.size) h8_3 hb4 q8_3
          have q8_4 : u2.heap.size < u4.heap.size := Nat.lt_of_lt_of_le q8_3 hb4.size
          go_wp2_with fail
          refine hK.out _ _ (HS'.out _ (hB4)) (fun hHeld => ?_)
          clear hK K
          try simp only [Act.put, List.setIfInBounds_toArray, List.set_cons_zero, List.set_cons_succ]
          obtain ⟨⟨ev0, e0⟩, ⟨ev1, e1⟩⟩ := And.intro (h8_4.1 0 (by omega)) (h8_4.1 1 (by omega))
          have ef := h8_4.2
          refine wpAnyH_ready (rs := [10]) (by kernel_rfl) (by simp) ?_
          refine AllReadyH.cons rfl (fun K hK => ?_) (AllReadyH.nil)
          go_simp
          go_wp2_with fail
          refine hK.out _ _ (HS'.out _ (set2_below hB4 g8)) (fun hHeld => ?_)
          clear hK K
          try simp only [Act.put, List.setIfInBounds_toArray, List.set_cons_zero, List.set_cons_succ]
          have HH := set2_is (X := u4) (b := u2.heap.size) (.int .i64 250000000) (.int .i64 1250000) h8_4.1 h8_4.2
          unfold set2 at HH
          have hBs : Below w4.heap.size w4 (set2 u4 u2.heap.size (.int .i64 250000000) (.int .i64 1250000)) := set2_below hB4 g8
          unfold set2 at hBs
          generalize hs1 : (u4.setCell ⟨u2.heap.size, 0, none⟩ (.int .i64 250000000)).setCell ⟨u2.heap.size, 1, none⟩ (.int .i64 1250000) = x1 at *
          obtain ⟨t0, t1, t5, t6, t7, t8⟩ := HH
          have hnn : u2.heap.size ≠ u1.heap.size := by omega
          have hn2 : u1.heap.size ≠ u2.heap.size := by omega
          have hs13 : (∀ i, i < 2 → ∃ v, x1.cell? ⟨u1.heap.size, i, none⟩ = some v) ∧ (∀ j, x1.frozen? ⟨u1.heap.size, j, none⟩ = false) := ⟨fun i hi => by obtain ⟨v, hv⟩ := h9_4.1 i hi; exact ⟨v, (t6 _ _ hn2).trans hv⟩, fun j => (World.frozen?_of_block (a := ⟨u1.heap.size, j, none⟩) (t7 _ hn2)).trans (h9_4.2 j)⟩
          obtain ⟨⟨av0, a0⟩, ⟨av1, a1⟩⟩ := And.intro (hs13.1 0 (by omega)) (hs13.1 1 (by omega))
          have af := hs13.2
          have k12 : u2.heap.size < x1.heap.size := by rw [t8]; exact q8_4
          have k13 : u1.heap.size < x1.heap.size := by rw [t8]; exact q9_4
          have T0 := Lib.hid t0
          have T1 := Lib.hid t1
          clear t0 t1 t5 t6 t7 t8 hs1 e0 e1 ef
          refine wpAnyH_ready (rs := [11]) (by kernel_rfl) (by simp) ?_
          refine AllReadyH.cons rfl (fun K hK => ?_) (AllReadyH.nil)
          go_simp
          go_wp2_with fail
          refine hK.out _ _ (HS'.out _ (set2_below hBs g9)) (fun hHeld => ?_)
          clear hK K
          try simp only [Act.put, List.setIfInBounds_toArray, List.set_cons_zero, List.set_cons_succ]
          refine wpAnyH_done (by kernel_rfl) ?_ _
          go_wp2_with fail
          go_meet
          exact ⟨rfl, rfl, rfl, R8.of hBs g8 k12 g9 k13 hnn T0.out T1.out hs13⟩
    · skip
      go_simp
      go_wp2_with fail
      refine hK.out _ _ (HS'.out _ ((hB0).alloc (hB0).size _)) (fun hHeld => ?_)
      clear hK K
      try simp only [Act.put, List.setIfInBounds_toArray, List.set_cons_zero, List.set_cons_succ]
      generalize hq1 : u0.alloc (.cells #[.int .i64 0, .int .i64 0] 145) = u1
      have hb1 : Below u0.heap.size u0 u1 := by rw [← hq1]; exact (Below.refl _ _).alloc (Nat.le_refl _) _
      have hB1 : Below w4.heap.size w4 u1 := (hB0).trans (hb1.mono (hB0).size)
      have h8_1 : (∀ i, i < 2 → ∃ v, u1.cell? ⟨u0.heap.size, i, none⟩ = some v) ∧ (∀ j, u1.frozen? ⟨u0.heap.size, j, none⟩ = false) := by rw [← hq1]; exact new2_is u0 _ _ _
      have q8_1 : u0.heap.size < u1.heap.size := by rw [← hq1]; simp
      have g8 : w4.heap.size ≤ u0.heap.size := (hB0).size
      clear hq1
      refine wpAnyH_ready (rs := [2, 9]) (by kernel_rfl) (by simp) ?_
      refine AllReadyH.cons rfl (fun K hK => ?_) (AllReadyH.cons rfl (fun K hK => ?_) (AllReadyH.nil))
      · skip
        go_simp
        refine (limitOf_x 600 240 500 1500 500 250000000 1250000 _ (by decide) (by decide) (by decide) (by decide) (by decide)).mono ?_
        rintro e u2 ⟨rfl, hb2⟩
        have hB2 : Below w4.heap.size w4 u2 := (hB1).trans (hb2.mono (hB1).size)
        have h8_2 := has2_below (b := u0.heap.size) h8_1 hb2 q8_1
        have q8_2 : u0.heap.size < u2.heap.size := Nat.lt_of_lt_of_le q8_1 hb2.size
        go_wp2_with fail
        refine hK.out _ _ (HS'.out _ (hB2)) (fun hHeld => ?_)
        clear hK K
        try simp only [Act.put, List.setIfInBounds_toArray, List.set_cons_zero, List.set_cons_succ]
        refine wpAnyH_ready (rs := [7, 9]) (by kernel_rfl) (by simp) ?_
        refine AllReadyH.cons rfl (fun K hK => ?_) (AllReadyH.cons rfl (fun K hK => ?_) (AllReadyH.nil))
        · skip
          go_simp
          refine (endsOf_x 1925230 1925230 0 0 1925230 1925230 _ (by decide) (by decide) (by decide) (by decide) (by decide) (by decide)).mono ?_
          rintro e u3 ⟨rfl, hb3⟩
          have hB3 : Below w4.heap.size w4 u3 := (hB2).trans (hb3.mono (hB2).size)
          have h8_3 := has2_below (b := u0.heap.size) h8_2 hb3 q8_2
          have q8_3 : u0.heap.size < u3.heap.size := Nat.lt_of_lt_of_le q8_2 hb3.size
          go_wp2_with fail
          refine hK.out _ _ (HS'.out _ (hB3)) (fun hHeld => ?_)
          clear hK K
          try simp only [Act.put, List.setIfInBounds_toArray, List.set_cons_zero, List.set_cons_succ]
          refine wpAnyH_ready (rs := [9]) (by kernel_rfl) (by simp) ?_
          refine AllReadyH.cons rfl (fun K hK => ?_) (AllReadyH.nil)
          go_simp
          go_wp2_with fail
          refine hK.out _ _ (HS'.out _ ((hB3).alloc (hB3).size _)) (fun hHeld => ?_)
          clear hK K
          try simp only [Act.put, List.setIfInBounds_toArray, List.set_cons_zero, List.set_cons_succ]
          generalize hq4 : u3.alloc (.cells #[.int .i64 0, .int .i64 0] 32) = u4
          have hb4 : Below u3.heap.size u3 u4 := by rw [← hq4]; exact (Below.refl _ _).alloc (Nat.le_refl _) _
          have hB4 : Below w4.heap.size w4 u4 := (hB3).trans (hb4.mono (hB3).size)
          have h8_4 := has2_below (b := u0.heap.size) h8_3 hb4 q8_3
          have q8_4 : u0.heap.size < u4.heap.size := Nat.lt_of_lt_of_le q8_3 hb4.size
          have h9_4 : (∀ i, i < 2 → ∃ v, u4.cell? ⟨u3.heap.size, i, none⟩ = some v) ∧ (∀ j, u4.frozen? ⟨u3.heap.size, j, none⟩ = false) := by rw [← hq4]; exact new2_is u3 _ _ _
          have q9_4 : u3.heap.size < u4.heap.size := by rw [← hq4]; simp
          have g9 : w4.heap.size ≤ u3.heap.size := (hB3).size
          clear hq4
          obtain ⟨⟨ev0, e0⟩, ⟨ev1, e1⟩⟩ := And.intro (h8_4.1 0 (by omega)) (h8_4.1 1 (by omega))
          have ef := h8_4.2
          refine wpAnyH_ready (rs := [10]) (by kernel_rfl) (by simp) ?_
          refine AllReadyH.cons rfl (fun K hK => ?_) (AllReadyH.nil)
          go_simp
          go_wp2_with fail
          refine hK.out _ _ (HS'.out _ (set2_below hB4 g8)) (fun hHeld => ?_)
          clear hK K
          try simp only [Act.put, List.setIfInBounds_toArray, List.set_cons_zero, List.set_cons_succ]
          have HH := set2_is (X := u4) (b := u0.heap.size) (.int .i64 250000000) (.int .i64 1250000) h8_4.1 h8_4.2
          unfold set2 at HH
          have hBs : Below w4.heap.size w4 (set2 u4 u0.heap.size (.int .i64 250000000) (.int .i64 1250000)) := set2_below hB4 g8
          unfold set2 at hBs
          generalize hs1 : (u4.setCell ⟨u0.heap.size, 0, none⟩ (.int .i64 250000000)).setCell ⟨u0.heap.size, 1, none⟩ (.int .i64 1250000) = x1 at *
          obtain ⟨t0, t1, t5, t6, t7, t8⟩ := HH
          have hnn : u0.heap.size ≠ u3.heap.size := by omega
          have hn2 : u3.heap.size ≠ u0.heap.size := by omega
          have hs13 : (∀ i, i < 2 → ∃ v, x1.cell? ⟨u3.heap.size, i, none⟩ = some v) ∧ (∀ j, x1.frozen? ⟨u3.heap.size, j, none⟩ = false) := ⟨fun i hi => by obtain ⟨v, hv⟩ := h9_4.1 i hi; exact ⟨v, (t6 _ _ hn2).trans hv⟩, fun j => (World.frozen?_of_block (a := ⟨u3.heap.size, j, none⟩) (t7 _ hn2)).trans (h9_4.2 j)⟩
          obtain ⟨⟨av0, a0⟩, ⟨av1, a1⟩⟩ := And.intro (hs13.1 0 (by omega)) (hs13.1 1 (by omega))
          have af := hs13.2
          have k12 : u0.heap.size < x1.heap.size := by rw [t8]; exact q8_4
          have k13 : u3.heap.size < x1.heap.size := by rw [t8]; exact q9_4
          have T0 := Lib.hid t0
          have T1 := Lib.hid t1
          clear t0 t1 t5 t6 t7 t8 hs1 e0 e1 ef
          refine wpAnyH_ready (rs := [11]) (by kernel_rfl) (by simp) ?_
          refine AllReadyH.cons rfl (fun K hK => ?_) (AllReadyH.nil)
          go_simp
          go_wp2_with fail
          refine hK.out _ _ (HS'.out _ (set2_below hBs g9)) (fun hHeld => ?_)
          clear hK K
          try simp only [Act.put, List.setIfInBounds_toArray, List.set_cons_zero, List.set_cons_succ]
          refine wpAnyH_done (by kernel_rfl) ?_ _
          go_wp2_with fail
          go_meet
          exact ⟨rfl, rfl, rfl, R8.of hBs g8 k12 g9 k13 hnn T0.out T1.out hs13⟩
        · skip
          go_simp
          go_wp2_with fail
          refine hK.out _ _ (HS'.out _ ((hB2).alloc (hB2).size _)) (fun hHeld => ?_)
          clear hK K
          try simp only [Act.put, List.setIfInBounds_toArray, List.set_cons_zero, List.set_cons_succ]
          generalize hq3 : u2.alloc (.cells #[.int .i64 0, .int .i64 0] 32) = u3
          have hb3 : Below u2.heap.size u2 u3 := by rw [← hq3]; exact (Below.refl _ _).alloc (Nat.le_refl _) _
          have hB3 : Below w4.heap.size w4 u3 := (hB2).trans (hb3.mono (hB2).size)
          have h8_3 := has2_below (b := u0.heap.size) h8_2 hb3 q8_2
          have q8_3 : u0.heap.size < u3.heap.size := Nat.lt_of_lt_of_le q8_2 hb3.size
          have h9_3 : (∀ i, i < 2 → ∃ v, u3.cell? ⟨u2.heap.size, i, none⟩ = some v) ∧ (∀ j, u3.frozen? ⟨u2.heap.size, j, none⟩ = false) := by rw [← hq3]; exact new2_is u2 _ _ _
          have q9_3 : u2.heap.size < u3.heap.size := by rw [← hq3]; simp
          have g9 : w4.heap.size ≤ u2.heap.size := (hB2).size
          clear hq3
          refine wpAnyH_ready (rs := [7]) (by kernel_rfl) (by simp) ?_
          refine AllReadyH.cons rfl (fun K hK => ?_) (AllReadyH.nil)
          go_simp
          refine (endsOf_x 1925230 1925230 0 0 1925230 1925230 _ (by decide) (by decide) (by decide) (by decide) (by decide) (by decide)).mono ?_
          rintro e u4 ⟨rfl, hb4⟩
          have hB4 : Below w4.heap.size w4 u4 := (hB3).trans (hb4.mono (hB3).size)
          have h8_4 := has2_below (b := u0.heap.size) h8_3 hb4 q8_3
          have q8_4 : u0.heap.size < u4.heap.size := Nat.lt_of_lt_of_le q8_3 hb4.size
          have h9_4 := has2_below (b := u2.heap.size) h9_3 hb4 q9_3
          have q9_4 : u2.heap.size < u4.heap.size := Nat.lt_of_lt_of_le q9_3 hb4.size
          go_wp2_with fail
          refine hK.out _ _ (HS'.out _ (hB4)) (fun hHeld => ?_)
          clear hK K
          try simp only [Act.put, List.setIfInBounds_toArray, List.set_cons_zero, List.set_cons_succ]
          obtain ⟨⟨ev0, e0⟩, ⟨ev1, e1⟩⟩ := And.intro (h8_4.1 0 (by omega)) (h8_4.1 1 (by omega))
          have ef := h8_4.2
          refine wpAnyH_ready (rs := [10]) (by kernel_rfl) (by simp) ?_
          refine AllReadyH.cons rfl (fun K hK => ?_) (AllReadyH.nil)
          go_simp
          go_wp2_with fail
          refine hK.out _ _ (HS'.out _ (set2_below hB4 g8)) (fun hHeld => ?_)
          clear hK K
          try simp only [Act.put, List.setIfInBounds_toArray, List.set_cons_zero, List.set_cons_succ]
          have HH := set2_is (X := u4) (b := u0.heap.size) (.int .i64 250000000) (.int .i64 1250000) h8_4.1 h8_4.2
          unfold set2 at HH
          have hBs : Below w4.heap.size w4 (set2 u4 u0.heap.size (.int .i64 250000000) (.int .i64 1250000)) := set2_below hB4 g8
          unfold set2 at hBs
          generalize hs1 : (u4.setCell ⟨u0.heap.size, 0, none⟩ (.int .i64 250000000)).setCell ⟨u0.heap.size, 1, none⟩ (.int .i64 1250000) = x1 at *
          obtain ⟨t0, t1, t5, t6, t7, t8⟩ := HH
          have hnn : u0.heap.size ≠ u2.heap.size := by omega
          have hn2 : u2.heap.size ≠ u0.heap.size := by omega
          have hs13 : (∀ i, i < 2 → ∃ v, x1.cell? ⟨u2.heap.size, i, none⟩ = some v) ∧ (∀ j, x1.frozen? ⟨u2.heap.size, j, none⟩ = false) := ⟨fun i hi => by obtain ⟨v, hv⟩ := h9_4.1 i hi; exact ⟨v, (t6 _ _ hn2).trans hv⟩, fun j => (World.frozen?_of_block (a := ⟨u2.heap.size, j, none⟩) (t7 _ hn2)).trans (h9_4.2 j)⟩
          obtain ⟨⟨av0, a0⟩, ⟨av1, a1⟩⟩ := And.intro (hs13.1 0 (by omega)) (hs13.1 1 (by omega))
          have af := hs13.2
          have k12 : u0.heap.size < x1.heap.size := by rw [t8]; exact q8_4
          have k13 : u2.heap.size < x1.heap.size := by rw [t8]; exact q9_4
          have T0 := Lib.hid t0
          have T1 := Lib.hid t1
          clear t0 t1 t5 t6 t7 t8 hs1 e0 e1 ef
          refine wpAnyH_ready (rs := [11]) (by kernel_rfl) (by simp) ?_
          refine AllReadyH.cons rfl (fun K hK => ?_) (AllReadyH.nil)
          go_simp
          go_wp2_with fail
          refine hK.out _ _ (HS'.out _ (set2_below hBs g9)) (fun hHeld => ?_)
          clear hK K
          try simp only [Act.put, List.setIfInBounds_toArray, List.set_cons_zero, List.set_cons_succ]
          refine wpAnyH_done (by kernel_rfl) ?_ _
          go_wp2_with fail
          go_meet
          exact ⟨rfl, rfl, rfl, R8.of hBs g8 k12 g9 k13 hnn T0.out T1.out hs13⟩
      · skip
        go_simp
        go_wp2_with fail
        refine hK.out _ _ (HS'.out _ ((hB1).alloc (hB1).size _)) (fun hHeld => ?_)
        clear hK K
        try simp only [Act.put, List.setIfInBounds_toArray, List.set_cons_zero, List.set_cons_succ]
        generalize hq2 : u1.alloc (.cells #[.int .i64 0, .int .i64 0] 32) = u2
        have hb2 : Below u1.heap.size u1 u2 := by rw [← hq2]; exact (Below.refl _ _).alloc (Nat.le_refl _) _
        have hB2 : Below w4.heap.size w4 u2 := (hB1).trans (hb2.mono (hB1).size)
        have h8_2 := has2_below (b := u0.heap.size) h8_1 hb2 q8_1
        have q8_2 : u0.heap.size < u2.heap.size := Nat.lt_of_lt_of_le q8_1 hb2.size
        have h9_2 : (∀ i, i < 2 → ∃ v, u2.cell? ⟨u1.heap.size, i, none⟩ = some v) ∧ (∀ j, u2.frozen? ⟨u1.heap.size, j, none⟩ = false) := by rw [← hq2]; exact new2_is u1 _ _ _
        have q9_2 : u1.heap.size < u2.heap.size := by rw [← hq2]; simp
        have g9 : w4.heap.size ≤ u1.heap.size := (hB1).size
        clear hq2
        refine wpAnyH_ready (rs := [2]) (by kernel_rfl) (by simp) ?_
        refine AllReadyH.cons rfl (fun K hK => ?_) (AllReadyH.nil)
        go_simp
        refine (limitOf_x 600 240 500 1500 500 250000000 1250000 _ (by decide) (by decide) (by decide) (by decide) (by decide)).mono ?_
        rintro e u3 ⟨rfl, hb3⟩
        have hB3 : Below w4.heap.size w4 u3 := (hB2).trans (hb3.mono (hB2).size)
        have h8_3 := has2_below (b := u0.heap.size) h8_2 hb3 q8_2
        have q8_3 : u0.heap.size < u3.heap.size := Nat.lt_of_lt_of_le q8_2 hb3.size
        have h9_3 := has2_below (b := u1.heap.size) h9_2 hb3 q9_2
        have q9_3 : u1.heap.size < u3.heap.size := Nat.lt_of_lt_of_le q9_2 hb3.size
        go_wp2_with fail
        refine hK.out _ _ (HS'.out _ (hB3)) (fun hHeld => ?_)
        clear hK K
        try simp only [Act.put, List.setIfInBounds_toArray, List.set_cons_zero, List.set_cons_succ]
        refine wpAnyH_ready (rs := [7]) (by kernel_rfl) (by simp) ?_
        refine AllReadyH.cons rfl (fun K hK => ?_) (AllReadyH.nil)
        go_simp
        refine (endsOf_x 1925230 1925230 0 0 1925230 1925230 _ (by decide) (by decide) (by decide) (by decide) (by decide) (by decide)).mono ?_
        rintro e u4 ⟨rfl, hb4⟩
        have hB4 : Below w4.heap.size w4 u4 := (hB3).trans (hb4.mono (hB3).size)
        have h8_4 := has2_below (b := u0.heap.size) h8_3 hb4 q8_3
        have q8_4 : u0.heap.size < u4.heap.size := Nat.lt_of_lt_of_le q8_3 hb4.size
        have h9_4 := has2_below (b := u1.heap.size) h9_3 hb4 q9_3
        have q9_4 : u1.heap.size < u4.heap.size := Nat.lt_of_lt_of_le q9_3 hb4.size
        go_wp2_with fail
        refine hK.out _ _ (HS'.out _ (hB4)) (fun hHeld => ?_)
        clear hK K
        try simp only [Act.put, List.setIfInBounds_toArray, List.set_cons_zero, List.set_cons_succ]
        obtain ⟨⟨ev0, e0⟩, ⟨ev1, e1⟩⟩ := And.intro (h8_4.1 0 (by omega)) (h8_4.1 1 (by omega))
        have ef := h8_4.2
        refine wpAnyH_ready (rs := [10]) (by kernel_rfl) (by simp) ?_
        refine AllReadyH.cons rfl (fun K hK => ?_) (AllReadyH.nil)
        go_simp
        go_wp2_with fail
        refine hK.out _ _ (HS'.out _ (set2_below hB4 g8)) (fun hHeld => ?_)
        clear hK K
        try simp only [Act.put, List.setIfInBounds_toArray, List.set_cons_zero, List.set_cons_succ]
        have HH := set2_is (X := u4) (b := u0.heap.size) (.int .i64 250000000) (.int .i64 1250000) h8_4.1 h8_4.2
        unfold set2 at HH
        have hBs : Below w4.heap.size w4 (set2 u4 u0.heap.size (.int .i64 250000000) (.int .i64 1250000)) := set2_below hB4 g8
        unfold set2 at hBs
        generalize hs1 : (u4.setCell ⟨u0.heap.size, 0, none⟩ (.int .i64 250000000)).setCell ⟨u0.heap.size, 1, none⟩ (.int .i64 1250000) = x1 at *
        obtain ⟨t0, t1, t5, t6, t7, t8⟩ := HH
        have hnn : u0.heap.size ≠ u1.heap.size := by omega
        have hn2 : u1.heap.size ≠ u0.heap.size := by omega
        have hs13 : (∀ i, i < 2 → ∃ v, x1.cell? ⟨u1.heap.size, i, none⟩ = some v) ∧ (∀ j, x1.frozen? ⟨u1.heap.size, j, none⟩ = false) := ⟨fun i hi => by obtain ⟨v, hv⟩ := h9_4.1 i hi; exact ⟨v, (t6 _ _ hn2).trans hv⟩, fun j => (World.frozen?_of_block (a := ⟨u1.heap.size, j, none⟩) (t7 _ hn2)).trans (h9_4.2 j)⟩
        obtain ⟨⟨av0, a0⟩, ⟨av1, a1⟩⟩ := And.intro (hs13.1 0 (by omega)) (hs13.1 1 (by omega))
        have af := hs13.2
        have k12 : u0.heap.size < x1.heap.size := by rw [t8]; exact q8_4
        have k13 : u1.heap.size < x1.heap.size := by rw [t8]; exact q9_4
        have T0 := Lib.hid t0
        have T1 := Lib.hid t1
        clear t0 t1 t5 t6 t7 t8 hs1 e0 e1 ef
        refine wpAnyH_ready (rs := [11]) (by kernel_rfl) (by simp) ?_
        refine AllReadyH.cons rfl (fun K hK => ?_) (AllReadyH.nil)
        go_simp
        go_wp2_with fail
        refine hK.out _ _ (HS'.out _ (set2_below hBs g9)) (fun hHeld => ?_)
        clear hK K
        try simp only [Act.put, List.setIfInBounds_toArray, List.set_cons_zero, List.set_cons_succ]
        refine wpAnyH_done (by kernel_rfl) ?_ _
        go_wp2_with fail
        go_meet
        exact ⟨rfl, rfl, rfl, R8.of hBs g8 k12 g9 k13 hnn T0.out T1.out hs13⟩
    · skip
      go_simp
      go_wp2_with fail
      refine hK.out _ _ (HS'.out _ ((hB0).alloc (hB0).size _)) (fun hHeld => ?_)
      clear hK K
      try simp only [Act.put, List.setIfInBounds_toArray, List.set_cons_zero, List.set_cons_succ]
      generalize hq1 : u0.alloc (.cells #[.int .i64 0, .int .i64 0] 32) = u1
      have hb1 : Below u0.heap.size u0 u1 := by rw [← hq1]; exact (Below.refl _ _).alloc (Nat.le_refl _) _
      have hB1 : Below w4.heap.size w4 u1 := (hB0).trans (hb1.mono (hB0).size)
      have h9_1 : (∀ i, i < 2 → ∃ v, u1.cell? ⟨u0.heap.size, i, none⟩ = some v) ∧ (∀ j, u1.frozen? ⟨u0.heap.size, j, none⟩ = false) := by rw [← hq1]; exact new2_is u0 _ _ _
      have q9_1 : u0.heap.size < u1.heap.size := by rw [← hq1]; simp
      have g9 : w4.heap.size ≤ u0.heap.size := (hB0).size
      clear hq1
      refine wpAnyH_ready (rs := [2, 8]) (by kernel_rfl) (by simp) ?_
      refine AllReadyH.cons rfl (fun K hK => ?_) (AllReadyH.cons rfl (fun K hK => ?_) (AllReadyH.nil))
      · skip
        go_simp
        refine (limitOf_x 600 240 500 1500 500 250000000 1250000 _ (by decide) (by decide) (by decide) (by decide) (by decide)).mono ?_
        rintro e u2 ⟨rfl, hb2⟩
        have hB2 : Below w4.heap.size w4 u2 := (hB1).trans (hb2.mono (hB1).size)
        have h9_2 := has2_below (b := u0.heap.size) h9_1 hb2 q9_1
        have q9_2 : u0.heap.size < u2.heap.size := Nat.lt_of_lt_of_le q9_1 hb2.size
        go_wp2_with fail
        refine hK.out _ _ (HS'.out _ (hB2)) (fun hHeld => ?_)
        clear hK K
        try simp only [Act.put, List.setIfInBounds_toArray, List.set_cons_zero, List.set_cons_succ]
        refine wpAnyH_ready (rs := [7, 8]) (by kernel_rfl) (by simp) ?_
        refine AllReadyH.cons rfl (fun K hK => ?_) (AllReadyH.cons rfl (fun K hK => ?_) (AllReadyH.nil))
        · skip
          go_simp
          refine (endsOf_x 1925230 1925230 0 0 1925230 1925230 _ (by decide) (by decide) (by decide) (by decide) (by decide) (by decide)).mono ?_
          rintro e u3 ⟨rfl, hb3⟩
          have hB3 : Below w4.heap.size w4 u3 := (hB2).trans (hb3.mono (hB2).size)
          have h9_3 := has2_below (b := u0.heap.size) h9_2 hb3 q9_2
          have q9_3 : u0.heap.size < u3.heap.size := Nat.lt_of_lt_of_le q9_2 hb3.size
          go_wp2_with fail
          refine hK.out _ _ (HS'.out _ (hB3)) (fun hHeld => ?_)
          clear hK K
          try simp only [Act.put, List.setIfInBounds_toArray, List.set_cons_zero, List.set_cons_succ]
          refine wpAnyH_ready (rs := [8]) (by kernel_rfl) (by simp) ?_
          refine AllReadyH.cons rfl (fun K hK => ?_) (AllReadyH.nil)
          go_simp
          go_wp2_with fail
          refine hK.out _ _ (HS'.out _ ((hB3).alloc (hB3).size _)) (fun hHeld => ?_)
          clear hK K
          try simp only [Act.put, List.setIfInBounds_toArray, List.set_cons_zero, List.set_cons_succ]
          generalize hq4 : u3.alloc (.cells #[.int .i64 0, .int .i64 0] 145) = u4
          have hb4 : Below u3.heap.size u3 u4 := by rw [← hq4]; exact (Below.refl _ _).alloc (Nat.le_refl _) _
          have hB4 : Below w4.heap.size w4 u4 := (hB3).trans (hb4.mono (hB3).size)
          have h9_4 := has2_below (b := u0.heap.size) h9_3 hb4 q9_3
          have q9_4 : u0.heap.size < u4.heap.size := Nat.lt_of_lt_of_le q9_3 hb4.size
          have h8_4 : (∀ i, i < 2 → ∃ v, u4.cell? ⟨u3.heap.size, i, none⟩ = some v) ∧ (∀ j, u4.frozen? ⟨u3.heap.size, j, none⟩ = false) := by rw [← hq4]; exact new2_is u3 _ _ _
          have q8_4 : u3.heap.size < u4.heap.size := by rw [← hq4]; simp
          have g8 : w4.heap.size ≤ u3.heap.size := (hB3).size
          clear hq4
          obtain ⟨⟨ev0, e0⟩, ⟨ev1, e1⟩⟩ := And.intro (h8_4.1 0 (by omega)) (h8_4.1 1 (by omega))
          have ef := h8_4.2
          refine wpAnyH_ready (rs := [10]) (by kernel_rfl) (by simp) ?_
          refine AllReadyH.cons rfl (fun K hK => ?_) (AllReadyH.nil)
          go_simp
          go_wp2_with fail
          refine hK.out _ _ (HS'.out _ (set2_below hB4 g8)) (fun hHeld => ?_)
          clear hK K
          try simp only [Act.put, List.setIfInBounds_toArray, List.set_cons_zero, List.set_cons_succ]
          have HH := set2_is (X := u4) (b := u3.heap.size) (.int .i64 250000000) (.int .i64 1250000) h8_4.1 h8_4.2
          unfold set2 at HH
          have hBs : Below w4.heap.size w4 (set2 u4 u3.heap.size (.int .i64 250000000) (.int .i64 1250000)) := set2_below hB4 g8
          unfold set2 at hBs
          generalize hs1 : (u4.setCell ⟨u3.heap.size, 0, none⟩ (.int .i64 250000000)).setCell ⟨u3.heap.size, 1, none⟩ (.int .i64 1250000) = x1 at *
          obtain ⟨t0, t1, t5, t6, t7, t8⟩ := HH
          have hnn : u3.heap.size ≠ u0.heap.size := by omega
          have hn2 : u0.heap.size ≠ u3.heap.size := by omega
          have hs13 : (∀ i, i < 2 → ∃ v, x1.cell? ⟨u0.heap.size, i, none⟩ = some v) ∧ (∀ j, x1.frozen? ⟨u0.heap.size, j, none⟩ = false) := ⟨fun i hi => by obtain ⟨v, hv⟩ := h9_4.1 i hi; exact ⟨v, (t6 _ _ hn2).trans hv⟩, fun j => (World.frozen?_of_block (a := ⟨u0.heap.size, j, none⟩) (t7 _ hn2)).trans (h9_4.2 j)⟩
          obtain ⟨⟨av0, a0⟩, ⟨av1, a1⟩⟩ := And.intro (hs13.1 0 (by omega)) (hs13.1 1 (by omega))
          have af := hs13.2
          have k12 : u3.heap.size < x1.heap.size := by rw [t8]; exact q8_4
          have k13 : u0.heap.size < x1.heap.size := by rw [t8]; exact q9_4
          have T0 := Lib.hid t0
          have T1 := Lib.hid t1
          clear t0 t1 t5 t6 t7 t8 hs1 e0 e1 ef
          refine wpAnyH_ready (rs := [11]) (by kernel_rfl) (by simp) ?_
          refine AllReadyH.cons rfl (fun K hK => ?_) (AllReadyH.nil)
          go_simp
          go_wp2_with fail
          refine hK.out _ _ (HS'.out _ (set2_below hBs g9)) (fun hHeld => ?_)
          clear hK K
          try simp only [Act.put, List.setIfInBounds_toArray, List.set_cons_zero, List.set_cons_succ]
          refine wpAnyH_done (by kernel_rfl) ?_ _
          go_wp2_with fail
          go_meet
          exact ⟨rfl, rfl, rfl, R8.of hBs g8 k12 g9 k13 hnn T0.out T1.out hs13⟩
        · skip
          go_simp
          go_wp2_with fail
          refine hK.out _ _ (HS'.out _ ((hB2).alloc (hB2).size _)) (fun hHeld => ?_)
          clear hK K
          try simp only [Act.put, List.setIfInBounds_toArray, List.set_cons_zero, List.set_cons_succ]
          generalize hq3 : u2.alloc (.cells #[.int .i64 0, .int .i64 0] 145) = u3
          have hb3 : Below u2.heap.size u2 u3 := by rw [← hq3]; exact (Below.refl _ _).alloc (Nat.le_refl _) _
          have hB3 : Below w4.heap.size w4 u3 := (hB2).trans (hb3.mono (hB2).size)
          have h9_3 := has2_below (b := u0.heap.size) h9_2 hb3 q9_2
          have q9_3 : u0.heap.size < u3.heap.size := Nat.lt_of_lt_of_le q9_2 hb3.size
          have h8_3 : (∀ i, i < 2 → ∃ v, u3.cell? ⟨u2.heap.size, i, none⟩ = some v) ∧ (∀ j, u3.frozen? ⟨u2.heap.size, j, none⟩ = false) := by rw [← hq3]; exact new2_is u2 _ _ _
          have q8_3 : u2.heap.size < u3.heap.size := by rw [← hq3]; simp
          have g8 : w4.heap.size ≤ u2.heap.size := (hB2).size
          clear hq3
          refine wpAnyH_ready (rs := [7]) (by kernel_rfl) (by simp) ?_
          refine AllReadyH.cons rfl (fun K hK => ?_) (AllReadyH.nil)
          go_simp
          refine (endsOf_x 1925230 1925230 0 0 1925230 1925230 _ (by decide) (by decide) (by decide) (by decide) (by decide) (by decide)).mono ?_
          rintro e u4 ⟨rfl, hb4⟩
          have hB4 : Below w4.heap.size w4 u4 := (hB3).trans (hb4.mono (hB3).size)
          have h9_4 := has2_below (b := u0.heap.size) h9_3 hb4 q9_3
          have q9_4 : u0.heap.size < u4.heap.size := Nat.lt_of_lt_of_le q9_3 hb4.size
          have h8_4 := has2_below (b := u2.heap.size) h8_3 hb4 q8_3
          have q8_4 : u2.heap.size < u4.heap.size := Nat.lt_of_lt_of_le q8_3 hb4.size
          go_wp2_with fail
          refine hK.out _ _ (HS'.out _ (hB4)) (fun hHeld => ?_)
          clear hK K
          try simp only [Act.put, List.setIfInBounds_toArray, List.set_cons_zero, List.set_cons_succ]
          obtain ⟨⟨ev0, e0⟩, ⟨ev1, e1⟩⟩ := And.intro (h8_4.1 0 (by omega)) (h8_4.1 1 (by omega))
          have ef := h8_4.2
          refine wpAnyH_ready (rs := [10]) (by kernel_rfl) (by simp) ?_
          refine AllReadyH.cons rfl (fun K hK => ?_) (AllReadyH.nil)
          go_simp
          go_wp2_with fail
          refine hK.out _ _ (HS'.out _ (set2_below hB4 g8)) (fun hHeld => ?_)
          clear hK K
          try simp only [Act.put, List.setIfInBounds_toArray, List.set_cons_zero, List.set_cons_succ]
          have HH := set2_is (X := u4) (b := u2.heap.size) (.int .i64 250000000) (.int .i64 1250000) h8_4.1 h8_4.2
          unfold set2 at HH
          have hBs : Below w4.heap.size w4 (set2 u4 u2.heap.size (.int .i64 250000000) (.int .i64 1250000)) := set2_below hB4 g8
          unfold set2 at hBs
          generalize hs1 : (u4.setCell ⟨u2.heap.size, 0, none⟩ (.int .i64 250000000)).setCell ⟨u2.heap.size, 1, none⟩ (.int .i64 1250000) = x1 at *
          obtain ⟨t0, t1, t5, t6, t7, t8⟩ := HH
          have hnn : u2.heap.size ≠ u0.heap.size := by omega
          have hn2 : u0.heap.size ≠ u2.heap.size := by omega
          have hs13 : (∀ i, i < 2 → ∃ v, x1.cell? ⟨u0.heap.size, i, none⟩ = some v) ∧ (∀ j, x1.frozen? ⟨u0.heap.size, j, none⟩ = false) := ⟨fun i hi => by obtain ⟨v, hv⟩ := h9_4.1 i hi; exact ⟨v, (t6 _ _ hn2).trans hv⟩, fun j => (World.frozen?_of_block (a := ⟨u0.heap.size, j, none⟩) (t7 _ hn2)).trans (h9_4.2 j)⟩
          obtain ⟨⟨av0, a0⟩, ⟨av1, a1⟩⟩ := And.intro (hs13.1 0 (by omega)) (hs13.1 1 (by omega))
          have af := hs13.2
          have k12 : u2.heap.size < x1.heap.size := by rw [t8]; exact q8_4
          have k13 : u0.heap.size < x1.heap.size := by rw [t8]; exact q9_4
          have T0 := Lib.hid t0
          have T1 := Lib.hid t1
          clear t0 t1 t5 t6 t7 t8 hs1 e0 e1 ef
          refine wpAnyH_ready (rs := [11]) (by kernel_rfl) (by simp) ?_
          refine AllReadyH.cons rfl (fun K hK => ?_) (AllReadyH.nil)
          go_simp
          go_wp2_with fail
          refine hK.out _ _ (HS'.out _ (set2_below hBs g9)) (fun hHeld => ?_)
          clear hK K
          try simp only [Act.put, List.setIfInBounds_toArray, List.set_cons_zero, List.set_cons_succ]
          refine wpAnyH_done (by kernel_rfl) ?_ _
          go_wp2_with fail
          go_meet
          exact ⟨rfl, rfl, rfl, R8.of hBs g8 k12 g9 k13 hnn T0.out T1.out hs13⟩
      · skip
        go_simp
        go_wp2_with fail
        refine hK.out _ _ (HS'.out _ ((hB1).alloc (hB1).size _)) (fun hHeld => ?_)
        clear hK K
        try simp only [Act.put, List.setIfInBounds_toArray, List.set_cons_zero, List.set_cons_succ]
        generalize hq2 : u1.alloc (.cells #[.int .i64 0, .int .i64 0] 145) = u2
        have hb2 : Below u1.heap.size u1 u2 := by rw [← hq2]; exact (Below.refl _ _).alloc (Nat.le_refl _) _
        have hB2 : Below w4.heap.size w4 u2 := (hB1).trans (hb2.mono (hB1).size)
        have h9_2 := has2_below (b := u0.heap.size) h9_1 hb2 q9_1
        have q9_2 : u0.heap.size < u2.heap.size := Nat.lt_of_lt_of_le q9_1 hb2.size
        have h8_2 : (∀ i, i < 2 → ∃ v, u2.cell? ⟨u1.heap.size, i, none⟩ = some v) ∧ (∀ j, u2.frozen? ⟨u1.heap.size, j, none⟩ = false) := by rw [← hq2]; exact new2_is u1 _ _ _
        have q8_2 : u1.heap.size < u2.heap.size := by rw [← hq2]; simp
        have g8 : w4.heap.size ≤ u1.heap.size := (hB1).size
        clear hq2
        refine wpAnyH_ready (rs := [2]) (by kernel_rfl) (by simp) ?_
        refine AllReadyH.cons rfl (fun K hK => ?_) (AllReadyH.nil)
        go_simp
        refine (limitOf_x 600 240 500 1500 500 250000000 1250000 _ (by decide) (by decide) (by decide) (by decide) (by decide)).mono ?_
        rintro e u3 ⟨rfl, hb3⟩
        have hB3 : Below w4.heap.size w4 u3 := (hB2).trans (hb3.mono (hB2).size)
        have h9_3 := has2_below (b := u0.heap.size) h9_2 hb3 q9_2
        have q9_3 : u0.heap.size < u3.heap.size := Nat.lt_of_lt_of_le q9_2 hb3.size
        have h8_3 := has2_below (b := u1.heap.size) h8_2 hb3 q8_2
        have q8_3 : u1.heap.size < u3.heap.size := Nat.lt_of_lt_of_le q8_2 hb3.size
        go_wp2_with fail
        refine hK.out _ _ (HS'.out _ (hB3)) (fun hHeld => ?_)
        clear hK K
        try simp only [Act.put, List.setIfInBounds_toArray, List.set_cons_zero, List.set_cons_succ]
        refine wpAnyH_ready (rs := [7]) (by kernel_rfl) (by simp) ?_
        refine AllReadyH.cons rfl (fun K hK => ?_) (AllReadyH.nil)
        go_simp
        refine (endsOf_x 1925230 1925230 0 0 1925230 1925230 _ (by decide) (by decide) (by decide) (by decide) (by decide) (by decide)).mono ?_
        rintro e u4 ⟨rfl, hb4⟩
        have hB4 : Below w4.heap.size w4 u4 := (hB3).trans (hb4.mono (hB3).size)
        have h9_4 := has2_below (b := u0.heap.size) h9_3 hb4 q9_3
        have q9_4 : u0.heap.size < u4.heap.size := Nat.lt_of_lt_of_le q9_3 hb4.size
        have h8_4 := has2_below (b := u1.heap.size) h8_3 hb4 q8_3
        have q8_4 : u1.heap.size < u4.heap.size := Nat.lt_of_lt_of_le q8_3 hb4.size
        go_wp2_with fail
        refine hK.out _ _ (HS'.out _ (hB4)) (fun hHeld => ?_)
        clear hK K
        try simp only [Act.put, List.setIfInBounds_toArray, List.set_cons_zero, List.set_cons_succ]
        obtain ⟨⟨ev0, e0⟩, ⟨ev1, e1⟩⟩ := And.intro (h8_4.1 0 (by omega)) (h8_4.1 1 (by omega))
        have ef := h8_4.2
        refine wpAnyH_ready (rs := [10]) (by kernel_rfl) (by simp) ?_
        refine AllReadyH.cons rfl (fun K hK => ?_) (AllReadyH.nil)
        go_simp
        go_wp2_with fail
        refine hK.out _ _ (HS'.out _ (set2_below hB4 g8)) (fun hHeld => ?_)
        clear hK K
        try simp only [Act.put, List.setIfInBounds_toArray, List.set_cons_zero, List.set_cons_succ]
        have HH := set2_is (X := u4) (b := u1.heap.size) (.int .i64 250000000) (.int .i64 1250000) h8_4.1 h8_4.2
        unfold set2 at HH
        have hBs : Below w4.heap.size w4 (set2 u4 u1.heap.size (.int .i64 250000000) (.int .i64 1250000)) := set2_below hB4 g8
        unfold set2 at hBs
        generalize hs1 : (u4.setCell ⟨u1.heap.size, 0, none⟩ (.int .i64 250000000)).setCell ⟨u1.heap.size, 1, none⟩ (.int .i64 1250000) = x1 at *
        obtain ⟨t0, t1, t5, t6, t7, t8⟩ := HH
        have hnn : u1.heap.size ≠ u0.heap.size := by omega
        have hn2 : u0.heap.size ≠ u1.heap.size := by omega
        have hs13 : (∀ i, i < 2 → ∃ v, x1.cell? ⟨u0.heap.size, i, none⟩ = some v) ∧ (∀ j, x1.frozen? ⟨u0.heap.size, j, none⟩ = false) := ⟨fun i hi => by obtain ⟨v, hv⟩ := h9_4.1 i hi; exact ⟨v, (t6 _ _ hn2).trans hv⟩, fun j => (World.frozen?_of_block (a := ⟨u0.heap.size, j, none⟩) (t7 _ hn2)).trans (h9_4.2 j)⟩
        obtain ⟨⟨av0, a0⟩, ⟨av1, a1⟩⟩ := And.intro (hs13.1 0 (by omega)) (hs13.1 1 (by omega))
        have af := hs13.2
        have k12 : u1.heap.size < x1.heap.size := by rw [t8]; exact q8_4
        have k13 : u0.heap.size < x1.heap.size := by rw [t8]; exact q9_4
        have T0 := Lib.hid t0
        have T1 := Lib.hid t1
        clear t0 t1 t5 t6 t7 t8 hs1 e0 e1 ef
        refine wpAnyH_ready (rs := [11]) (by kernel_rfl) (by simp) ?_
        refine AllReadyH.cons rfl (fun K hK => ?_) (AllReadyH.nil)
        go_simp
        go_wp2_with fail
        refine hK.out _ _ (HS'.out _ (set2_below hBs g9)) (fun hHeld => ?_)
        clear hK K
        try simp only [Act.put, List.setIfInBounds_toArray, List.set_cons_zero, List.set_cons_succ]
        refine wpAnyH_done (by kernel_rfl) ?_ _
        go_wp2_with fail
        go_meet
        exact ⟨rfl, rfl, rfl, R8.of hBs g8 k12 g9 k13 hnn T0.out T1.out hs13⟩
  case rest =>
    obtain ⟨rfl, rfl, rfl, b12, b13, rfl, rfl, g12, q12, g13, q13, t0, t1, t2, t3, hB5⟩ := hcut
    generalize hb11 : w3.heap.size = b11 at *
    have F : ∀ {b i : Nat} {v : Value}, b < w4.heap.size → w4.cell? ⟨b, i, none⟩ = some v → wc.cell? ⟨b, i, none⟩ = some v := fun {b i v} h e => (hB5.cell (p := ⟨b, i, none⟩) h).trans e
    have d0 := F l94 G9.out.1
    have d1 := F l94 G9.out.2.1
    have c0 := F lw4 G9.out.2.2.1
    have c1 := F lw4 G9.out.2.2.2
    have df : ∀ j, wc.frozen? ⟨b9, j, none⟩ = false := fun j => (hB5.frozen (p := ⟨b9, j, none⟩) l94).trans (F9.out.1 j)
    have cf : ∀ j, wc.frozen? ⟨w.heap.size, j, none⟩ = false := fun j => (hB5.frozen (p := ⟨w.heap.size, j, none⟩) lw4).trans (F9.out.2 j)
    have hBc : Below w.heap.size w wc := hB4.trans (hB5.mono (by omega))
    have s5 := hB5.size
    have l95 : b9 < wc.heap.size := by omega
    have lw5 : w.heap.size < wc.heap.size := by omega
    have n912 : b12 ≠ b9 := by omega
    have n913 : b13 ≠ b9 := by omega
    have nw9 : w.heap.size ≠ b9 := by omega
    have n9w : b9 ≠ w.heap.size := by omega
    clear F G9 F9 hB4 hB5 hb11 HT HL HG e0 e1 e2 e3 p0 p1 p2 p3 g12 g13 s5 l94 lw4 l11 mq
    go_upto_region 9 with (fail)
    have HS : ∀ w', Below wc.heap.size wc w' → w'.cell? ⟨b9, 0, none⟩ = some (.int .i64 0) ∧ w'.cell? ⟨b12, 0, none⟩ = some (.int .i64 250000000) ∧ w'.cell? ⟨b12, 1, none⟩ = some (.int .i64 1250000) ∧ w'.cell? ⟨b13, 0, none⟩ = some (.int .i64 1925230) := fun w' hb => ⟨(hb.cell (p := ⟨b9, 0, none⟩) l95).trans d0, (hb.cell (p := ⟨b12, 0, none⟩) q12).trans t0, (hb.cell (p := ⟨b12, 1, none⟩) q12).trans t1, (hb.cell (p := ⟨b13, 0, none⟩) q13).trans t2⟩
    have HS' := Lib.hid HS
    clear HS
    refine wp_region_Z (S := (fun w' => w'.cell? ⟨b9, 0, none⟩ = some (.int .i64 0) ∧ w'.cell? ⟨b12, 0, none⟩ = some (.int .i64 250000000) ∧ w'.cell? ⟨b12, 1, none⟩ = some (.int .i64 1250000) ∧ w'.cell? ⟨b13, 0, none⟩ = some (.int .i64 1925230))) 8 (by kernel_rfl) (by kernel_rfl) (by kernel_rfl) (by exact HS'.out _ (Below.refl wc.heap.size wc).drew) (fun hHeld => ?_)
    refine wpAnyZ_take (i := 0) (oi := ⟨some 40, _, _, _, _, _⟩) (v := ?_) (by kernel_rfl) (by kernel_rfl) rfl rfl (by kernel_rfl) (by kernel_rfl) (by kernel_rfl) (fun _ _ _ h => h) (Or.inl ⟨by kernel_rfl, ?_⟩) (by assumption) ?_
    rotate_left
    · (intro w hSw; (try dsimp only at hSw); go_simp; all_goals with_reducible rfl)
    try simp only [Act.put, List.setIfInBounds_toArray, List.set_cons_zero, List.set_cons_succ]
    refine wpAnyZ_take (i := 1) (oi := ⟨some 41, _, _, _, _, _⟩) (v := ?_) (by kernel_rfl) (by kernel_rfl) rfl rfl (by kernel_rfl) (by kernel_rfl) (by kernel_rfl) (fun _ _ _ h => h) (Or.inl ⟨by kernel_rfl, ?_⟩) (by assumption) ?_
    rotate_left
    · (intro w hSw; (try dsimp only at hSw); go_simp; all_goals with_reducible rfl)
    try simp only [Act.put, List.setIfInBounds_toArray, List.set_cons_zero, List.set_cons_succ]
    refine wpAnyZ_take (i := 2) (oi := ⟨some 42, _, _, _, _, _⟩) (v := ?_) (by kernel_rfl) (by kernel_rfl) rfl rfl (by kernel_rfl) (by kernel_rfl) (by kernel_rfl) (fun _ _ _ h => h) (Or.inl ⟨by kernel_rfl, ?_⟩) (by assumption) ?_
    rotate_left
    · (intro w hSw; (try dsimp only at hSw); go_simp; all_goals with_reducible rfl)
    try simp only [Act.put, List.setIfInBounds_toArray, List.set_cons_zero, List.set_cons_succ]
    refine wpAnyZ_take (i := 3) (oi := ⟨some 43, _, _, _, _, _⟩) (v := ?_) (by kernel_rfl) (by kernel_rfl) rfl rfl (by kernel_rfl) (by kernel_rfl) (by kernel_rfl) (fun _ _ _ h => h) (Or.inl ⟨by kernel_rfl, ?_⟩) (by assumption) ?_
    rotate_left
    · (intro w hSw; (try dsimp only at hSw); go_simp; all_goals with_reducible rfl)
    try simp only [Act.put, List.setIfInBounds_toArray, List.set_cons_zero, List.set_cons_succ]
    refine wpAnyZ_take (i := 4) (oi := ⟨some 44, _, _, _, _, _⟩) (v := ?_) (by kernel_rfl) (by kernel_rfl) rfl rfl (by kernel_rfl) (by kernel_rfl) (by kernel_rfl) (fun _ _ _ h => h) (Or.inl ⟨by kernel_rfl, ?_⟩) (by assumption) ?_
    rotate_left
    · (intro w hSw; (try dsimp only at hSw); go_simp; all_goals with_reducible rfl)
    try simp only [Act.put, List.setIfInBounds_toArray, List.set_cons_zero, List.set_cons_succ]
    refine wpAnyZ_call (q := 5) (by kernel_rfl) rfl rfl (fun K hK => ?_)
    go_simp
    refine (least_x 250000000 1250000 1925230 1341 _ (by decide) (by decide) (by decide) (by decide)).mono ?_
    rintro e y1 ⟨rfl, hb1⟩
    have hY1 : Below wc.heap.size wc y1 := ((Below.refl wc.heap.size wc).drew).trans (hb1.mono ((Below.refl wc.heap.size wc).drew).size)
    have E : ∀ {b i : Nat} {v : Value}, b < wc.heap.size → wc.cell? ⟨b, i, none⟩ = some v → y1.cell? ⟨b, i, none⟩ = some v := fun {b i v} h e => (hY1.cell (p := ⟨b, i, none⟩) h).trans e
    replace d0 := E l95 d0
    replace d1 := E l95 d1
    replace c0 := E lw5 c0
    replace c1 := E lw5 c1
    replace t0 := E q12 t0
    replace t1 := E q12 t1
    replace t2 := E q13 t2
    replace t3 := E q13 t3
    replace df : ∀ j, y1.frozen? ⟨b9, j, none⟩ = false := fun j => (hY1.frozen (p := ⟨b9, j, none⟩) l95).trans (df j)
    replace cf : ∀ j, y1.frozen? ⟨w.heap.size, j, none⟩ = false := fun j => (hY1.frozen (p := ⟨w.heap.size, j, none⟩) lw5).trans (cf j)
    have l95' : b9 < y1.heap.size := Nat.lt_of_lt_of_le l95 hY1.size
    have lw5' : w.heap.size < y1.heap.size := Nat.lt_of_lt_of_le lw5 hY1.size
    have q12' : b12 < y1.heap.size := Nat.lt_of_lt_of_le q12 hY1.size
    have q13' : b13 < y1.heap.size := Nat.lt_of_lt_of_le q13 hY1.size
    clear E hb1
    go_wp2_with fail
    refine hK.out _ _ (HS'.out _ hY1) (fun hHeld => ?_)
    clear hK K
    try simp only [Act.put, List.setIfInBounds_toArray, List.set_cons_zero, List.set_cons_succ]
    refine wpAnyZ_call (q := 6) (by kernel_rfl) rfl rfl (fun K hK => ?_)
    go_simp
    go_wp2_with fail
    refine hK.out _ _ (HS'.out _ hY1) (fun hHeld => ?_)
    clear hK K
    try simp only [Act.put, List.setIfInBounds_toArray, List.set_cons_zero, List.set_cons_succ]
    refine wpAnyZ_take (i := 7) (oi := ⟨some 47, _, _, _, _, _⟩) (v := ?_) (by kernel_rfl) (by kernel_rfl) rfl rfl (by kernel_rfl) (by kernel_rfl) (by kernel_rfl) (fun _ _ _ h => h) (Or.inl ⟨by kernel_rfl, ?_⟩) (by assumption) ?_
    rotate_left
    · (intro w hSw; (try dsimp only at hSw); go_simp; all_goals with_reducible rfl)
    try simp only [Act.put, List.setIfInBounds_toArray, List.set_cons_zero, List.set_cons_succ]
    refine wpAnyZ_last (by kernel_rfl) rfl (fun K hK => ?_)
    go_simp
    go_wp2_with fail
    refine hK.out _ _ ?_
    clear hK K
    try simp only [Act.put, List.setIfInBounds_toArray, List.set_cons_zero, List.set_cons_succ]
    have hZ : Below w.heap.size w (y1.setCell ⟨b9, 0, none⟩ (.int .i64 1341)) := (hBc.trans (hY1.mono hBc.size)).setCell (p := ⟨b9, 0, none⟩) (by show w.heap.size ≤ b9; omega) _
    have zs := cell_same (u := .int .i64 1341) d0
    have zo := cell_off (w := y1) (b := b9) (i := 0) (c := b9) (j := 1) (u := .int .i64 1341) (Or.inr (by decide))
    have oc0 := (cell_off (w := y1) (b := b9) (i := 0) (c := w.heap.size) (j := 0) (u := .int .i64 1341) (Or.inl nw9)).trans c0
    have oc1 := (cell_off (w := y1) (b := b9) (i := 0) (c := w.heap.size) (j := 1) (u := .int .i64 1341) (Or.inl nw9)).trans c1
    have ot0 := (cell_off (w := y1) (b := b9) (i := 0) (c := b12) (j := 0) (u := .int .i64 1341) (Or.inl n912)).trans t0
    have ot1 := (cell_off (w := y1) (b := b9) (i := 0) (c := b12) (j := 1) (u := .int .i64 1341) (Or.inl n912)).trans t1
    have ot2 := (cell_off (w := y1) (b := b9) (i := 0) (c := b13) (j := 0) (u := .int .i64 1341) (Or.inl n913)).trans t2
    have ot3 := (cell_off (w := y1) (b := b9) (i := 0) (c := b13) (j := 1) (u := .int .i64 1341) (Or.inl n913)).trans t3
    have odf : ∀ j, (y1.setCell ⟨b9, 0, none⟩ (.int .i64 1341)).frozen? ⟨b9, j, none⟩ = false := fun j => by rw [World.frozen?_setCell]; exact df j
    have ocf : ∀ j, (y1.setCell ⟨b9, 0, none⟩ (.int .i64 1341)).frozen? ⟨w.heap.size, j, none⟩ = false := fun j => by rw [World.frozen?_setCell]; exact cf j
    have osz := size_set y1 ⟨b9, 0, none⟩ (.int .i64 1341)
    generalize hx1 : y1.setCell ⟨b9, 0, none⟩ (.int .i64 1341) = x1 at *
    replace zo := zo.trans d1
    clear hHeld HS' hx1 d0 d1 c0 c1 t0 t1 t2 t3 df cf hBc hY1 l95 lw5 q12 q13
    have d0 := zs
    have d1 := zo
    have c0 := oc0
    have c1 := oc1
    have t0 := ot0
    have t1 := ot1
    have t2 := ot2
    have t3 := ot3
    have df := odf
    have cf := ocf
    have hBc := hZ
    have l95 : b9 < x1.heap.size := by rw [osz]; exact l95'
    have lw5 : w.heap.size < x1.heap.size := by rw [osz]; exact lw5'
    have q12 : b12 < x1.heap.size := by rw [osz]; exact q12'
    have q13 : b13 < x1.heap.size := by rw [osz]; exact q13'
    clear zs zo oc0 oc1 ot0 ot1 ot2 ot3 odf ocf hZ osz l95' lw5' q12' q13'
    go_upto_region 10 with (fail)
    have HS : ∀ w', Below x1.heap.size x1 w' → w'.cell? ⟨b9, 1, none⟩ = some (.int .i64 0) ∧ w'.cell? ⟨b12, 0, none⟩ = some (.int .i64 250000000) ∧ w'.cell? ⟨b12, 1, none⟩ = some (.int .i64 1250000) ∧ w'.cell? ⟨b13, 1, none⟩ = some (.int .i64 1925230) := fun w' hb => ⟨(hb.cell (p := ⟨b9, 1, none⟩) l95).trans d1, (hb.cell (p := ⟨b12, 0, none⟩) q12).trans t0, (hb.cell (p := ⟨b12, 1, none⟩) q12).trans t1, (hb.cell (p := ⟨b13, 1, none⟩) q13).trans t3⟩
    have HS' := Lib.hid HS
    clear HS
    refine wp_region_Z (S := (fun w' => w'.cell? ⟨b9, 1, none⟩ = some (.int .i64 0) ∧ w'.cell? ⟨b12, 0, none⟩ = some (.int .i64 250000000) ∧ w'.cell? ⟨b12, 1, none⟩ = some (.int .i64 1250000) ∧ w'.cell? ⟨b13, 1, none⟩ = some (.int .i64 1925230))) 8 (by kernel_rfl) (by kernel_rfl) (by kernel_rfl) (by exact HS'.out _ (Below.refl x1.heap.size x1).drew) (fun hHeld => ?_)
    refine wpAnyZ_take (i := 0) (oi := ⟨some 48, _, _, _, _, _⟩) (v := ?_) (by kernel_rfl) (by kernel_rfl) rfl rfl (by kernel_rfl) (by kernel_rfl) (by kernel_rfl) (fun _ _ _ h => h) (Or.inl ⟨by kernel_rfl, ?_⟩) (by assumption) ?_
    rotate_left
    · (intro w hSw; (try dsimp only at hSw); go_simp; all_goals with_reducible rfl)
    try simp only [Act.put, List.setIfInBounds_toArray, List.set_cons_zero, List.set_cons_succ]
    refine wpAnyZ_take (i := 1) (oi := ⟨some 49, _, _, _, _, _⟩) (v := ?_) (by kernel_rfl) (by kernel_rfl) rfl rfl (by kernel_rfl) (by kernel_rfl) (by kernel_rfl) (fun _ _ _ h => h) (Or.inl ⟨by kernel_rfl, ?_⟩) (by assumption) ?_
    rotate_left
    · (intro w hSw; (try dsimp only at hSw); go_simp; all_goals with_reducible rfl)
    try simp only [Act.put, List.setIfInBounds_toArray, List.set_cons_zero, List.set_cons_succ]
    refine wpAnyZ_take (i := 2) (oi := ⟨some 50, _, _, _, _, _⟩) (v := ?_) (by kernel_rfl) (by kernel_rfl) rfl rfl (by kernel_rfl) (by kernel_rfl) (by kernel_rfl) (fun _ _ _ h => h) (Or.inl ⟨by kernel_rfl, ?_⟩) (by assumption) ?_
    rotate_left
    · (intro w hSw; (try dsimp only at hSw); go_simp; all_goals with_reducible rfl)
    try simp only [Act.put, List.setIfInBounds_toArray, List.set_cons_zero, List.set_cons_succ]
    refine wpAnyZ_take (i := 3) (oi := ⟨some 51, _, _, _, _, _⟩) (v := ?_) (by kernel_rfl) (by kernel_rfl) rfl rfl (by kernel_rfl) (by kernel_rfl) (by kernel_rfl) (fun _ _ _ h => h) (Or.inl ⟨by kernel_rfl, ?_⟩) (by assumption) ?_
    rotate_left
    · (intro w hSw; (try dsimp only at hSw); go_simp; all_goals with_reducible rfl)
    try simp only [Act.put, List.setIfInBounds_toArray, List.set_cons_zero, List.set_cons_succ]
    refine wpAnyZ_take (i := 4) (oi := ⟨some 52, _, _, _, _, _⟩) (v := ?_) (by kernel_rfl) (by kernel_rfl) rfl rfl (by kernel_rfl) (by kernel_rfl) (by kernel_rfl) (fun _ _ _ h => h) (Or.inl ⟨by kernel_rfl, ?_⟩) (by assumption) ?_
    rotate_left
    · (intro w hSw; (try dsimp only at hSw); go_simp; all_goals with_reducible rfl)
    try simp only [Act.put, List.setIfInBounds_toArray, List.set_cons_zero, List.set_cons_succ]
    refine wpAnyZ_call (q := 5) (by kernel_rfl) rfl rfl (fun K hK => ?_)
    go_simp
    refine (least_x 250000000 1250000 1925230 1341 _ (by decide) (by decide) (by decide) (by decide)).mono ?_
    rintro e y2 ⟨rfl, hb2⟩
    have hY2 : Below x1.heap.size x1 y2 := ((Below.refl x1.heap.size x1).drew).trans (hb2.mono ((Below.refl x1.heap.size x1).drew).size)
    have E : ∀ {b i : Nat} {v : Value}, b < x1.heap.size → x1.cell? ⟨b, i, none⟩ = some v → y2.cell? ⟨b, i, none⟩ = some v := fun {b i v} h e => (hY2.cell (p := ⟨b, i, none⟩) h).trans e
    replace d0 := E l95 d0
    replace d1 := E l95 d1
    replace c0 := E lw5 c0
    replace c1 := E lw5 c1
    replace t0 := E q12 t0
    replace t1 := E q12 t1
    replace t2 := E q13 t2
    replace t3 := E q13 t3
    replace df : ∀ j, y2.frozen? ⟨b9, j, none⟩ = false := fun j => (hY2.frozen (p := ⟨b9, j, none⟩) l95).trans (df j)
    replace cf : ∀ j, y2.frozen? ⟨w.heap.size, j, none⟩ = false := fun j => (hY2.frozen (p := ⟨w.heap.size, j, none⟩) lw5).trans (cf j)
    have l95' : b9 < y2.heap.size := Nat.lt_of_lt_of_le l95 hY2.size
    have lw5' : w.heap.size < y2.heap.size := Nat.lt_of_lt_of_le lw5 hY2.size
    have q12' : b12 < y2.heap.size := Nat.lt_of_lt_of_le q12 hY2.size
    have q13' : b13 < y2.heap.size := Nat.lt_of_lt_of_le q13 hY2.size
    clear E hb2
    go_wp2_with fail
    refine hK.out _ _ (HS'.out _ hY2) (fun hHeld => ?_)
    clear hK K
    try simp only [Act.put, List.setIfInBounds_toArray, List.set_cons_zero, List.set_cons_succ]
    refine wpAnyZ_call (q := 6) (by kernel_rfl) rfl rfl (fun K hK => ?_)
    go_simp
    go_wp2_with fail
    refine hK.out _ _ (HS'.out _ hY2) (fun hHeld => ?_)
    clear hK K
    try simp only [Act.put, List.setIfInBounds_toArray, List.set_cons_zero, List.set_cons_succ]
    refine wpAnyZ_take (i := 7) (oi := ⟨some 55, _, _, _, _, _⟩) (v := ?_) (by kernel_rfl) (by kernel_rfl) rfl rfl (by kernel_rfl) (by kernel_rfl) (by kernel_rfl) (fun _ _ _ h => h) (Or.inl ⟨by kernel_rfl, ?_⟩) (by assumption) ?_
    rotate_left
    · (intro w hSw; (try dsimp only at hSw); go_simp; all_goals with_reducible rfl)
    try simp only [Act.put, List.setIfInBounds_toArray, List.set_cons_zero, List.set_cons_succ]
    refine wpAnyZ_last (by kernel_rfl) rfl (fun K hK => ?_)
    go_simp
    go_wp2_with fail
    refine hK.out _ _ ?_
    clear hK K
    try simp only [Act.put, List.setIfInBounds_toArray, List.set_cons_zero, List.set_cons_succ]
    have hZ : Below w.heap.size w (y2.setCell ⟨b9, 1, none⟩ (.int .i64 1341)) := (hBc.trans (hY2.mono hBc.size)).setCell (p := ⟨b9, 1, none⟩) (by show w.heap.size ≤ b9; omega) _
    have zs := cell_same (u := .int .i64 1341) d1
    have zo := cell_off (w := y2) (b := b9) (i := 1) (c := b9) (j := 0) (u := .int .i64 1341) (Or.inr (by decide))
    have oc0 := (cell_off (w := y2) (b := b9) (i := 1) (c := w.heap.size) (j := 0) (u := .int .i64 1341) (Or.inl nw9)).trans c0
    have oc1 := (cell_off (w := y2) (b := b9) (i := 1) (c := w.heap.size) (j := 1) (u := .int .i64 1341) (Or.inl nw9)).trans c1
    have ot0 := (cell_off (w := y2) (b := b9) (i := 1) (c := b12) (j := 0) (u := .int .i64 1341) (Or.inl n912)).trans t0
    have ot1 := (cell_off (w := y2) (b := b9) (i := 1) (c := b12) (j := 1) (u := .int .i64 1341) (Or.inl n912)).trans t1
    have ot2 := (cell_off (w := y2) (b := b9) (i := 1) (c := b13) (j := 0) (u := .int .i64 1341) (Or.inl n913)).trans t2
    have ot3 := (cell_off (w := y2) (b := b9) (i := 1) (c := b13) (j := 1) (u := .int .i64 1341) (Or.inl n913)).trans t3
    have odf : ∀ j, (y2.setCell ⟨b9, 1, none⟩ (.int .i64 1341)).frozen? ⟨b9, j, none⟩ = false := fun j => by rw [World.frozen?_setCell]; exact df j
    have ocf : ∀ j, (y2.setCell ⟨b9, 1, none⟩ (.int .i64 1341)).frozen? ⟨w.heap.size, j, none⟩ = false := fun j => by rw [World.frozen?_setCell]; exact cf j
    have osz := size_set y2 ⟨b9, 1, none⟩ (.int .i64 1341)
    generalize hx2 : y2.setCell ⟨b9, 1, none⟩ (.int .i64 1341) = x2 at *
    replace zo := zo.trans d0
    clear hHeld HS' hx2 d0 d1 c0 c1 t0 t1 t2 t3 df cf hBc hY2 l95 lw5 q12 q13
    have d1 := zs
    have d0 := zo
    have c0 := oc0
    have c1 := oc1
    have t0 := ot0
    have t1 := ot1
    have t2 := ot2
    have t3 := ot3
    have df := odf
    have cf := ocf
    have hBc := hZ
    have l95 : b9 < x2.heap.size := by rw [osz]; exact l95'
    have lw5 : w.heap.size < x2.heap.size := by rw [osz]; exact lw5'
    have q12 : b12 < x2.heap.size := by rw [osz]; exact q12'
    have q13 : b13 < x2.heap.size := by rw [osz]; exact q13'
    clear zs zo oc0 oc1 ot0 ot1 ot2 ot3 odf ocf hZ osz l95' lw5' q12' q13'
    go_wp2_with fail
    rw [rounds_succ]
    go_wp2
    refine bodyPost_ret (v := .tuple #[.agg #[.int .i64 1341, .int .i64 1341], .int .i64 0]) (by simp [results, Try.results52, go_sem, *]) rfl ⟨rfl, ?_⟩
    exact (hBc.setCell (p := ⟨w.heap.size, 0, none⟩) (Nat.le_refl _) _).setCell (p := ⟨w.heap.size, 1, none⟩) (Nat.le_refl _) _
end Go.Proofs.Ytchfhhmmjioajaa
