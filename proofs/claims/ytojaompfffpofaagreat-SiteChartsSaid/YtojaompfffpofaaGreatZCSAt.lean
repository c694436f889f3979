import Derived.Test.YtojaompfffpofaaGreatZCSHalf
import Derived.StillTailTactics
import Derived.Outline
namespace Go.Proofs.YtojaompfffpofaaGreat
open Go.ChangeShapes Go.WideShapes Go.ChangeAt Go.RowKit
set_option linter.unusedVariables false
set_option linter.unusedSimpArgs false
attribute [local go_sem ↓] Go.wp_at_zero Go.wp_at_succ
theorem mul8 {x y : Int} (x0 : 0 ≤ x) (x1 : x ≤ 100000000) (y0 : 0 ≤ y) (y1 : y ≤ 100000000) : ∃ m, Hid (x * y = m) ∧ 0 ≤ m ∧ m ≤ 10000000000000000 ∧ x * y = m ∧ IntKind.i64.wrap (x * y) = m := by
  have h0 : 0 ≤ x * y := Int.mul_nonneg x0 y0
  have h1 : x * y ≤ 100000000 * 100000000 := Int.mul_le_mul x1 y1 y0 (by omega)
  exact ⟨x * y, Lib.hid rfl, h0, by omega, rfl, IntWalk.i64_in _ (by omega)⟩
theorem down_is (n z : Int) (w : World) (h0 : -4000000000000000000 ≤ n) (h1 : n ≤ 4000000000000000000) (hz : Hid (dnO n = z)) :
    Calls Tryz.prog 112 #[.int .i64 n] w fun e w' => e = .returned (.int .i64 z) ∧ w = w' := by rw [← hz.out]; exact down_any n w h0 h1
theorem up_is (n z : Int) (w : World) (h0 : -4000000000000000000 ≤ n) (h1 : n ≤ 4000000000000000000) (hz : Hid (upO n = z)) :
    Calls Tryz.prog 113 #[.int .i64 n] w fun e w' => e = .returned (.int .i64 z) ∧ w = w' := by rw [← hz.out]; exact up_any n w h0 h1
set_option maxRecDepth 100000 in
set_option maxHeartbeats 4000000 in
theorem turned_any (p q : Pt) (w : World) (hp : PtOk p) (hq : PtOk q) :
    Calls Tryz.prog 176 #[.agg #[.int .i64 p.a, .int .i64 p.b, .int .i64 p.c, .int .i64 p.d], .agg #[.int .i64 q.a, .int .i64 q.b, .int .i64 q.c, .int .i64 q.d]] w fun e w' => e = .returned (.agg #[.int .i64 (trn p q).a, .int .i64 (trn p q).b, .int .i64 (trn p q).c, .int .i64 (trn p q).d]) ∧ Below w.heap.size w w' := by
  obtain ⟨a, b, c, d⟩ := p
  obtain ⟨a', b', c', d'⟩ := q
  obtain ⟨p1, p2, p3, p4, p5, p6⟩ := hp
  obtain ⟨q1, q2, q3, q4, q5, q6⟩ := hq
  dsimp only at p1 p2 p3 p4 p5 p6 q1 q2 q3 q4 q5 q6 ⊢
  obtain ⟨m1, h1, m10, m11, m12, m13⟩ := mul8 (x := a) (y := a') (by omega) (by omega) (by omega) (by omega)
  obtain ⟨m2, h2, m20, m21, m22, m23⟩ := mul8 (x := d) (y := d') (by omega) (by omega) (by omega) (by omega)
  obtain ⟨m3, h3, m30, m31, m32, m33⟩ := mul8 (x := b) (y := b') (by omega) (by omega) (by omega) (by omega)
  obtain ⟨m4, h4, m40, m41, m42, m43⟩ := mul8 (x := c) (y := c') (by omega) (by omega) (by omega) (by omega)
  obtain ⟨m5, h5, m50, m51, m52, m53⟩ := mul8 (x := c) (y := a') (by omega) (by omega) (by omega) (by omega)
  obtain ⟨m6, h6, m60, m61, m62, m63⟩ := mul8 (x := a) (y := c') (by omega) (by omega) (by omega) (by omega)
  obtain ⟨m7, h7, m70, m71, m72, m73⟩ := mul8 (x := d) (y := b') (by omega) (by omega) (by omega) (by omega)
  obtain ⟨m8, h8, m80, m81, m82, m83⟩ := mul8 (x := b) (y := d') (by omega) (by omega) (by omega) (by omega)
  obtain ⟨z1, y1⟩ : ∃ z, Hid (dnO (m1 - m2) = z) := ⟨_, Lib.hid rfl⟩
  obtain ⟨z2, y2⟩ : ∃ z, Hid (upO (m3 - m4) = z) := ⟨_, Lib.hid rfl⟩
  obtain ⟨z3, y3⟩ : ∃ z, Hid (dnO (m5 + m6) = z) := ⟨_, Lib.hid rfl⟩
  obtain ⟨z4, y4⟩ : ∃ z, Hid (upO (m7 + m8) = z) := ⟨_, Lib.hid rfl⟩
  have hT : trn ⟨a, b, c, d⟩ ⟨a', b', c', d'⟩ = ⟨max 0 z1, z2, z3, min 100000000 z4⟩ := by
    unfold trn; dsimp only
    rw [h1.out, h2.out, h3.out, h4.out, h5.out, h6.out, h7.out, h8.out, y1.out, y2.out, y3.out, y4.out]
  rw [hT]
  dsimp only
  clear hT h1 h2 h3 h4 h5 h6 h7 h8
  obtain ⟨x1, e1⟩ : ∃ x, max 0 z1 = x := ⟨_, rfl⟩
  obtain ⟨x2, e2⟩ : ∃ x, min 100000000 z4 = x := ⟨_, rfl⟩
  rw [e1, e2]
  have s1 : IntKind.i64.wrap (m1 - m2) = m1 - m2 := IntWalk.i64_in _ (by omega)
  have s2 : IntKind.i64.wrap (m3 - m4) = m3 - m4 := IntWalk.i64_in _ (by omega)
  have s3 : IntKind.i64.wrap (m5 + m6) = m5 + m6 := IntWalk.i64_in _ (by omega)
  have s4 : IntKind.i64.wrap (m7 + m8) = m7 + m8 := IntWalk.i64_in _ (by omega)
  clear p1 p2 p3 p4 p5 p6 q1 q2 q3 q4 q5 q6 m12 m22 m32 m42 m52 m62 m72 m82
  go_enter Tryz.func176, Tryz.ntmps176
  go_upto_region 1 with (fail)
  refine wp_region_still_tail 69 (by kernel_rfl) (by kernel_rfl) ?_
  change wpStill _ _ (World.drew _) (fun a' => wpList _ _ _ _ a' (World.drew _)) _ _
  simp only [List.append_eq, List.cons_append, List.nil_append, List.take_succ_cons, List.take_zero, List.drop_succ_cons, List.drop_zero]
  iterate 15 still_step
  still_call ((down_is (m1 - m2) z1 _ (by omega) (by omega) y1).mono fun _ _ h => ⟨h.1, h.2.symm⟩)
  iterate 16 still_step
  still_call ((up_is (m3 - m4) z2 _ (by omega) (by omega) y2).mono fun _ _ h => ⟨h.1, h.2.symm⟩)
  iterate 16 still_step
  still_call ((down_is (m5 + m6) z3 _ (by omega) (by omega) y3).mono fun _ _ h => ⟨h.1, h.2.symm⟩)
  iterate 15 still_step
  still_call ((up_is (m7 + m8) z4 _ (by omega) (by omega) y4).mono fun _ _ h => ⟨h.1, h.2.symm⟩)
  iterate 3 still_step
  refine wpStill_nil ?_
  go_wp2
  all_goals
    refine bodyPost_ret (v := .agg #[.int .i64 x1, .int .i64 z2, .int .i64 z3, .int .i64 x2]) (by simp [results, Tryz.results176, go_sem] <;> omega) rfl ⟨rfl, ?_⟩
    (repeat (first | (with_reducible refine Below.drew ?_) | (with_reducible refine below_drewN ?_ _) | (with_reducible refine Below.alloc ?_ (by first | omega | (simp; done) | (simp; omega) | (simp at *; omega)) _) | (with_reducible refine Below.setCell ?_ (by first | omega | (simp; done) | (simp; omega) | (simp at *; omega)) _) | (with_reducible exact Below.refl _ _) | (with_reducible assumption) | (with_reducible refine Below.trans ?_ (Below.mono (by assumption) (by first | omega | (simp; done) | (simp; omega) | (simp at *; omega))))))
end Go.Proofs.YtojaompfffpofaaGreat
