import Derived.Test.YtchfhhmmjioajaaZRTCeil
import Derived.Outline
namespace Go.Proofs.Ytchfhhmmjioajaa
open Go.ChangeShapes Go.WideShapes Go.ChangeAt Go.RowKit
set_option linter.unusedVariables false
set_option linter.unusedSimpArgs false
attribute [local go_sem ↓] Go.wp_at_zero Go.wp_at_succ
theorem rootP_2 : rootP 2 = (840896415, 840896416) := by
  have h1 : isq (1000000000 * 707106781) = 840896415 := isq_one (by decide) (by decide)
  have h2 : isq (1000000000 * 707106782 - 1) = 840896415 := isq_one (by decide) (by decide)
  have h3 : rootP (1 + 1) = (isq (1000000000 * (rootP 1).1), isq (1000000000 * (rootP 1).2 - 1) + 1) := by rw [rootP]
  rw [rootP_1] at h3
  dsimp only at h3
  rw [h1, h2] at h3
  exact h3
theorem RootOf_2 (w : World) :
    Calls Try.prog 16 #[.int .i64 2] w fun e w' => e = .returned (.tuple #[.agg #[.int .i64 840896415, .int .i64 840896416], .int .i64 0]) ∧ Below w.heap.size w w' := by
  have := RootOf_good 2 w (by omega)
  rw [rootP_2] at this
  exact this
theorem One_is (w : World) : Calls Try.prog 68 #[] w (Row4 w 600 240 500 1500) := by
  go_enter Try.func68, Try.ntmps68
  go_wp2
  go_ret
  exact ⟨w.heap.size, rfl, Nat.le_refl _, by simp, by simp [go_sem], by simp [go_sem], by simp [go_sem], by simp [go_sem], (Below.refl _ _).alloc (Nat.le_refl _) _⟩
theorem Fresh_is (w : World) : Calls Try.prog 69 #[] w (Row4 w 740230 740230 0 0) := by
  go_enter Try.func69, Try.ntmps69
  go_wp2
  go_ret
  exact ⟨w.heap.size, rfl, Nat.le_refl _, by simp, by simp [go_sem], by simp [go_sem], by simp [go_sem], by simp [go_sem], (Below.refl _ _).alloc (Nat.le_refl _) _⟩
theorem Down_is (w : World) : Calls Try.prog 70 #[] w fun e w' => e = .returned (.agg #[.int .i64 1000, .int .i64 4000, .int .i64 600, .int .i64 210, .int .i64 0]) ∧ Below w.heap.size w w' := by
  go_enter Try.func70, Try.ntmps70
  go_wp2
  refine bodyPost_ret (v := .agg #[.int .i64 1000, .int .i64 4000, .int .i64 600, .int .i64 210, .int .i64 0]) (by simp [results, Try.results70, go_sem]) rfl ⟨rfl, ?_⟩
  (repeat (first | (with_reducible refine Below.drew ?_) | (with_reducible refine below_drewN ?_ _) | (with_reducible refine Below.alloc ?_ (by first | omega | (simp; done) | (simp; omega) | (simp at *; omega)) _) | (with_reducible refine Below.setCell ?_ (by first | omega | (simp; done) | (simp; omega) | (simp at *; omega)) _) | (with_reducible exact Below.refl _ _) | (with_reducible assumption) | (with_reducible refine Below.trans ?_ (Below.mono (by assumption) (by first | omega | (simp; done) | (simp; omega) | (simp at *; omega))))))
theorem Lift {w w' : World} (h : Below w.heap.size w w') : ∀ {b i : Nat} {v : Value}, b < w.heap.size → w.cell? ⟨b, i, none⟩ = some v → w'.cell? ⟨b, i, none⟩ = some v := fun {b i v} hb e => (h.cell (p := ⟨b, i, none⟩) hb).trans e
set_option maxRecDepth 100000 in
set_option maxHeartbeats 4000000 in
theorem tawake_any (w : World) :
    Calls Try.prog 15 #[] w fun e w' => e = .returned (.bool true) ∧ Below w.heap.size w w' := by
  go_enter Try.func15, Try.ntmps15
  go_wp2_with fail
  refine (RootOf_2 _).mono ?_
  rintro e w1 ⟨rfl, hB1⟩
  go_wp2_with fail
  generalize hx : w1.alloc (.cells #[.int .i64 840896415, .int .i64 840896416] 24) = x1
  have hx1 : Below w1.heap.size w1 x1 := by rw [← hx]; exact (Below.refl _ _).alloc (Nat.le_refl _) _
  have r0 : x1.cell? ⟨w1.heap.size, 0, none⟩ = some (.int .i64 840896415) := by rw [← hx]; simp [go_sem]
  have r1 : x1.cell? ⟨w1.heap.size, 1, none⟩ = some (.int .i64 840896416) := by rw [← hx]; simp [go_sem]
  have l1 : w1.heap.size < x1.heap.size := by rw [← hx]; simp
  have hX1 : Below w.heap.size w x1 := hB1.trans (hx1.mono hB1.size)
  clear hx hx1 hB1
  generalize hr : w1.heap.size = rb at *
  clear hr
  refine (One_is _).mono ?_
  rintro e w2 ⟨tb, rfl, lt1, lt2, g0, g1, g2, g3, hb2⟩
  replace r0 := Lift hb2 l1 r0
  replace r1 := Lift hb2 l1 r1
  have l2 : rb < w2.heap.size := Nat.lt_of_lt_of_le l1 hb2.size
  have hX2 : Below w.heap.size w w2 := hX1.trans (hb2.mono hX1.size)
  clear hb2 l1 hX1 lt1
  go_wp2_with fail
  refine (Fresh_is _).mono ?_
  rintro e w3 ⟨q0, rfl, lq1, lq2, p0, p1, p2, p3, hb3⟩
  replace r0 := Lift hb3 l2 r0
  replace r1 := Lift hb3 l2 r1
  replace g0 := Lift hb3 lt2 g0
  replace g1 := Lift hb3 lt2 g1
  replace g2 := Lift hb3 lt2 g2
  replace g3 := Lift hb3 lt2 g3
  have l3 : rb < w3.heap.size := Nat.lt_of_lt_of_le l2 hb3.size
  have lt3 : tb < w3.heap.size := Nat.lt_of_lt_of_le lt2 hb3.size
  have hX3 : Below w.heap.size w w3 := hX2.trans (hb3.mono hX2.size)
  clear hb3 l2 lt2 hX2 lq1
  go_wp2_with fail
  refine (Down_is _).mono ?_
  rintro e w4 ⟨rfl, hb4⟩
  replace r0 := Lift hb4 l3 r0
  replace r1 := Lift hb4 l3 r1
  replace g0 := Lift hb4 lt3 g0
  replace g1 := Lift hb4 lt3 g1
  replace g2 := Lift hb4 lt3 g2
  replace g3 := Lift hb4 lt3 g3
  replace p0 := Lift hb4 lq2 p0
  replace p1 := Lift hb4 lq2 p1
  replace p2 := Lift hb4 lq2 p2
  replace p3 := Lift hb4 lq2 p3
  have l4 : rb < w4.heap.size := Nat.lt_of_lt_of_le l3 hb4.size
  have lt4 : tb < w4.heap.size := Nat.lt_of_lt_of_le lt3 hb4.size
  have lq4 : q0 < w4.heap.size := Nat.lt_of_lt_of_le lq2 hb4.size
  have hX4 : Below w.heap.size w w4 := hX3.trans (hb4.mono hX3.size)
  clear hb4 l3 lt3 lq2 hX3
  have HLD := Lib.hid (Loaded_ex tb 0 1 q0 0 1 w4 lt4 lq4 g0 g1 g2 g3 p0 p1 p2 p3)
  clear g0 g1 g2 g3 p0 p1 p2 p3
  go_wp2_with fail
  refine HLD.out.mono ?_
  rintro e w5 ⟨q, rfl, e1, e2, e3, e4, e5, e6, hb5⟩
  replace r0 := Lift hb5 l4 r0
  replace r1 := Lift hb5 l4 r1
  have l5 : rb < w5.heap.size := Nat.lt_of_lt_of_le l4 hb5.size
  have hX5 : Below w.heap.size w w5 := hX4.trans (hb5.mono hX4.size)
  have nqr : q ≠ rb := by omega
  clear hb5 l4 lt4 lq4 hX4 HLD e1
  go_wp2_with fail
  refine (One_is _).mono ?_
  rintro e w6 ⟨tb, rfl, lt1, lt2, g0, g1, g2, g3, hb6⟩
  replace r0 := Lift hb6 l5 r0
  replace r1 := Lift hb6 l5 r1
  replace e3 := Lift hb6 e2 e3
  replace e4 := Lift hb6 e2 e4
  replace e5 := Lift hb6 e2 e5
  replace e6 := Lift hb6 e2 e6
  have l6 : rb < w6.heap.size := Nat.lt_of_lt_of_le l5 hb6.size
  have q6 : q < w6.heap.size := Nat.lt_of_lt_of_le e2 hb6.size
  have hX6 : Below w.heap.size w w6 := hX5.trans (hb6.mono hX5.size)
  clear hb6 l5 e2 hX5 lt1
  go_wp2_with fail
  generalize hx : w6.alloc (.cells #[.int .i64 1925230, .int .i64 1925230, .int .i64 0, .int .i64 0] 45) = x6
  have hx6 : Below w6.heap.size w6 x6 := by rw [← hx]; exact (Below.refl _ _).alloc (Nat.le_refl _) _
  have p0 : x6.cell? ⟨w6.heap.size, 0, none⟩ = some (.int .i64 1925230) := by rw [← hx]; simp [go_sem]
  have p1 : x6.cell? ⟨w6.heap.size, 0 + 1, none⟩ = some (.int .i64 1925230) := by rw [← hx]; simp [go_sem]
  have p2 : x6.cell? ⟨w6.heap.size, 0 + 2, none⟩ = some (.int .i64 0) := by rw [← hx]; simp [go_sem]
  have p3 : x6.cell? ⟨w6.heap.size, 0 + 3, none⟩ = some (.int .i64 0) := by rw [← hx]; simp [go_sem]
  have lp : w6.heap.size < x6.heap.size := by rw [← hx]; simp
  replace r0 := Lift hx6 l6 r0
  replace r1 := Lift hx6 l6 r1
  replace e3 := Lift hx6 q6 e3
  replace e4 := Lift hx6 q6 e4
  replace e5 := Lift hx6 q6 e5
  replace e6 := Lift hx6 q6 e6
  have l7 : rb < x6.heap.size := Nat.lt_of_lt_of_le l6 hx6.size
  have q7 : q < x6.heap.size := Nat.lt_of_lt_of_le q6 hx6.size
  have hX7 : Below w.heap.size w x6 := hX6.trans (hx6.mono hX6.size)
  have HCE := Lib.hid (Ceiling_ex tb 0 1 w6.heap.size 0 1 x6 (Nat.lt_of_lt_of_le lt2 hx6.size) lp (Lift hx6 lt2 g0) (Lift hx6 lt2 g1) (Lift hx6 lt2 g2) (Lift hx6 lt2 g3) p0 p1 p2 p3)
  clear hx hx6 p0 p1 p2 p3 lp l6 q6 hX6 g0 g1 g2 g3 lt2
  refine HCE.out.mono ?_
  rintro e w7 ⟨rfl, hb7⟩
  replace r0 := Lift hb7 l7 r0
  replace r1 := Lift hb7 l7 r1
  replace e3 := Lift hb7 q7 e3
  replace e4 := Lift hb7 q7 e4
  replace e5 := Lift hb7 q7 e5
  replace e6 := Lift hb7 q7 e6
  have l8 : rb < w7.heap.size := Nat.lt_of_lt_of_le l7 hb7.size
  have q8 : q < w7.heap.size := Nat.lt_of_lt_of_le q7 hb7.size
  have hX8 : Below w.heap.size w w7 := hX7.trans (hb7.mono hX7.size)
  clear hb7 l7 q7 hX7 HCE
  have n1 : w7.heap.size ≠ rb := by omega
  have n2 : w7.heap.size ≠ q := by omega
  have HX8 := Lib.hid hX8
  clear hX8
  go_wp2
  go_ret
  exact ⟨by rfl, HX8.out.alloc HX8.out.size _⟩
end Go.Proofs.Ytchfhhmmjioajaa
