/- The walk of shotlinelaw03.TissueProducts: it returns true. -/
import Derived.Test.YtchfhhmmjioajaaTAwake
import Derived.Test.YtchfhhmmjioajaaTDecFn
import Derived.Test.YtchfhhmmjioajaaMMath
import Derived.Outline
namespace Go.Proofs.Ytchfhhmmjioajaa
open Go.ChangeShapes Go.WideShapes Go.ChangeAt Go.RowKit
set_option linter.unusedVariables false
set_option linter.unusedSimpArgs false
attribute [local go_sem ↓] Go.wp_at_zero Go.wp_at_succ
theorem bWp_is (n a b : Int) (r : Bool) (w : World) (h : inB n a b = r) : Calls Try.prog 18 #[.int .i64 n, .int .i64 a, .int .i64 b] w fun e w' => e = .returned (.bool r) ∧ w = w' := by rw [← h]; exact baseWithin_any n a b w
noncomputable def dcE (s h L : Int) : Int := firE [rngE s 0 1000000, rngE h 1 100000, rngE L 0 24]
noncomputable def dcL (s h L : Int) : Int := if dcE s h L = 0 then decL s h L.toNat else 0
noncomputable def dcH (s h L : Int) : Int := if dcE s h L = 0 then decH s h L.toNat else 0
theorem dcE_02 (s h L : Int) : dcE s h L = 0 ∧ inB s 0 1000000 = true ∧ inB h 1 100000 = true ∧ inB L 0 24 = true ∨ dcE s h L = 2 ∧ (inB s 0 1000000 = false ∨ inB h 1 100000 = false ∨ inB L 0 24 = false) := by
  rcases inB_cases s 0 1000000 with h1 | h1
  · rcases inB_cases h 1 100000 with h2 | h2
    · rcases inB_cases L 0 24 with h3 | h3
      · exact Or.inl ⟨by rw [dcE, rngE_t h1, rngE_t h2, rngE_t h3]; rfl, h1, h2, h3⟩
      · exact Or.inr ⟨firE_22 (rngE_02 _ _ _) (rngE_02 _ _ _) (rngE_02 _ _ _) (Or.inr (Or.inr (rngE_f h3))), Or.inr (Or.inr h3)⟩
    · exact Or.inr ⟨firE_22 (rngE_02 _ _ _) (rngE_02 _ _ _) (rngE_02 _ _ _) (Or.inr (Or.inl (rngE_f h2))), Or.inr (Or.inl h2)⟩
  · exact Or.inr ⟨firE_22 (rngE_02 _ _ _) (rngE_02 _ _ _) (rngE_02 _ _ _) (Or.inl (rngE_f h1)), Or.inl h1⟩
theorem Decay_tot (s h L : Int) (w : World) :
    Calls Try.prog 17 #[.int .i64 s, .int .i64 h, .int .i64 L] w fun e w' => e = .returned (.tuple #[.agg #[.int .i64 (dcL s h L), .int .i64 (dcH s h L)], .int .i64 (dcE s h L)]) ∧ Below w.heap.size w w' := by
  rcases dcE_02 s h L with ⟨h0, h1, h2, h3⟩ | ⟨h0, _⟩
  · obtain ⟨a1, a2⟩ := inB_iff.1 h1
    obtain ⟨b1, b2⟩ := inB_iff.1 h2
    obtain ⟨c1, c2⟩ := inB_iff.1 h3
    obtain ⟨n, rfl⟩ : ∃ n : Nat, L = n := ⟨L.toNat, by omega⟩
    rw [dcL, dcH, if_pos h0, if_pos h0, h0]
    exact Decay_good s h n w a1 a2 b1 b2 (by omega)
  · rw [dcL, dcH, if_neg (by omega), if_neg (by omega), h0]
    exact Decay_bad s h L w h0
theorem Decay_x (s h L x y c : Int) (w : World) (hx : dcL s h L = x) (hy : dcH s h L = y) (hc : dcE s h L = c) :
    Calls Try.prog 17 #[.int .i64 s, .int .i64 h, .int .i64 L] w fun e w' => e = .returned (.tuple #[.agg #[.int .i64 x, .int .i64 y], .int .i64 c]) ∧ Below w.heap.size w w' := by
  rw [← hx, ← hy, ← hc]; exact Decay_tot s h L w
set_option maxRecDepth 100000 in
set_option maxHeartbeats 2000000 in
theorem tissueProducts_s0 (s0 s1 h l0 l1 l2 : Int) (w : World) (hs0 : inB s0 0 500000 = false) :
    Calls Try.prog 4 #[.agg #[.int .i64 s0, .int .i64 s1], .int .i64 h, .agg #[.int .i64 l0, .int .i64 l1, .int .i64 l2]] w fun e w' => e = .returned (.bool true) ∧ Below w.heap.size w w' := by
  have HS0 := Lib.hid (fun w => bWp_is s0 0 500000 false w hs0)
  clear hs0
  go_enter Try.func4, Try.ntmps4
  go_wp2_with fail
  refine (tawake_any _).mono ?_
  rintro e w1 ⟨rfl, hbw1⟩
  have z1 := hbw1.size
  try simp at z1
  have c1_0 : w1.cell? ⟨w.heap.size, 0, none⟩ = some (.int .i64 s0) := by rw [(bcell hbw1).1 _ _ (by first | (simp; done) | (simp; omega) | omega)]; simp [go_sem, World.cell?_alloc_past, *]
  have c1_1 : w1.cell? ⟨w.heap.size, 1, none⟩ = some (.int .i64 s1) := by rw [(bcell hbw1).1 _ _ (by first | (simp; done) | (simp; omega) | omega)]; simp [go_sem, World.cell?_alloc_past, *]
  have c1_2 : w1.cell? ⟨w.heap.size + 1, 0, none⟩ = some (.int .i64 l0) := by rw [(bcell hbw1).1 _ _ (by first | (simp; done) | (simp; omega) | omega)]; simp [go_sem, World.cell?_alloc_past, *]
  have c1_3 : w1.cell? ⟨w.heap.size + 1, 1, none⟩ = some (.int .i64 l1) := by rw [(bcell hbw1).1 _ _ (by first | (simp; done) | (simp; omega) | omega)]; simp [go_sem, World.cell?_alloc_past, *]
  have c1_4 : w1.cell? ⟨w.heap.size + 1, 2, none⟩ = some (.int .i64 l2) := by rw [(bcell hbw1).1 _ _ (by first | (simp; done) | (simp; omega) | omega)]; simp [go_sem, World.cell?_alloc_past, *]
  have hB1 : Below w.heap.size w w1 := (by (repeat (first | (with_reducible refine Below.drew ?_) | (with_reducible refine below_drewN ?_ _) | (with_reducible refine Below.alloc ?_ (by first | omega | (simp; done) | (simp; omega) | (simp at *; omega)) _) | (with_reducible refine Below.setCell ?_ (by first | omega | (simp; done) | (simp; omega) | (simp at *; omega)) _) | (with_reducible exact Below.refl _ _) | (with_reducible assumption) | (with_reducible refine Below.trans ?_ (Below.mono (by assumption) (by first | omega | (simp; done) | (simp; omega) | (simp at *; omega)))))))
  have o1_0 : w.heap.size < w1.heap.size := by omega
  have n1_0 : w1.heap.size ≠ w.heap.size := by omega
  have t1_0_1 : w.heap.size < w1.heap.size + 1 := by omega
  have t1_0_2 : w.heap.size < w1.heap.size + 1 + 1 := by omega
  have t1_0_3 : w.heap.size < w1.heap.size + 1 + 1 + 1 := by omega
  have t1_0_4 : w.heap.size < w1.heap.size + 1 + 1 + 1 + 1 := by omega
  have t1_0_5 : w.heap.size < w1.heap.size + 1 + 1 + 1 + 1 + 1 := by omega
  have o1_1 : w.heap.size + 1 < w1.heap.size := by omega
  have n1_1 : w1.heap.size ≠ w.heap.size + 1 := by omega
  have t1_1_1 : w.heap.size + 1 < w1.heap.size + 1 := by omega
  have t1_1_2 : w.heap.size + 1 < w1.heap.size + 1 + 1 := by omega
  have t1_1_3 : w.heap.size + 1 < w1.heap.size + 1 + 1 + 1 := by omega
  have t1_1_4 : w.heap.size + 1 < w1.heap.size + 1 + 1 + 1 + 1 := by omega
  have t1_1_5 : w.heap.size + 1 < w1.heap.size + 1 + 1 + 1 + 1 + 1 := by omega
  have b1 : w.heap.size ≤ w1.heap.size := by omega
  clear hbw1
  go_wp2_with (first | (go_at_call 18; ((with_reducible refine (HS0.out _).mono ?_)); rintro e w' ⟨rfl, rfl⟩))
  go_ret
  exact ⟨by first | rfl | simp, (by (repeat (first | (with_reducible refine Below.drew ?_) | (with_reducible refine below_drewN ?_ _) | (with_reducible refine Below.alloc ?_ (by first | omega | (simp; done) | (simp; omega) | (simp at *; omega)) _) | (with_reducible refine Below.setCell ?_ (by first | omega | (simp; done) | (simp; omega) | (simp at *; omega)) _) | (with_reducible exact Below.refl _ _) | (with_reducible assumption) | (with_reducible refine Below.trans ?_ (Below.mono (by assumption) (by first | omega | (simp; done) | (simp; omega) | (simp at *; omega)))))))⟩
set_option maxRecDepth 100000 in
set_option maxHeartbeats 2000000 in
theorem tissueProducts_s1 (s0 s1 h l0 l1 l2 : Int) (w : World) (hs0 : inB s0 0 500000 = true) (hs1 : inB s1 0 500000 = false) :
    Calls Try.prog 4 #[.agg #[.int .i64 s0, .int .i64 s1], .int .i64 h, .agg #[.int .i64 l0, .int .i64 l1, .int .i64 l2]] w fun e w' => e = .returned (.bool true) ∧ Below w.heap.size w w' := by
  have HS0 := Lib.hid (fun w => bWp_is s0 0 500000 true w hs0)
  have HS1 := Lib.hid (fun w => bWp_is s1 0 500000 false w hs1)
  clear hs0 hs1
  go_enter Try.func4, Try.ntmps4
  go_wp2_with fail
  refine (tawake_any _).mono ?_
  rintro e w1 ⟨rfl, hbw1⟩
  have z1 := hbw1.size
  try simp at z1
  have c1_0 : w1.cell? ⟨w.heap.size, 0, none⟩ = some (.int .i64 s0) := by rw [(bcell hbw1).1 _ _ (by first | (simp; done) | (simp; omega) | omega)]; simp [go_sem, World.cell?_alloc_past, *]
  have c1_1 : w1.cell? ⟨w.heap.size, 1, none⟩ = some (.int .i64 s1) := by rw [(bcell hbw1).1 _ _ (by first | (simp; done) | (simp; omega) | omega)]; simp [go_sem, World.cell?_alloc_past, *]
  have c1_2 : w1.cell? ⟨w.heap.size + 1, 0, none⟩ = some (.int .i64 l0) := by rw [(bcell hbw1).1 _ _ (by first | (simp; done) | (simp; omega) | omega)]; simp [go_sem, World.cell?_alloc_past, *]
  have c1_3 : w1.cell? ⟨w.heap.size + 1, 1, none⟩ = some (.int .i64 l1) := by rw [(bcell hbw1).1 _ _ (by first | (simp; done) | (simp; omega) | omega)]; simp [go_sem, World.cell?_alloc_past, *]
  have c1_4 : w1.cell? ⟨w.heap.size + 1, 2, none⟩ = some (.int .i64 l2) := by rw [(bcell hbw1).1 _ _ (by first | (simp; done) | (simp; omega) | omega)]; simp [go_sem, World.cell?_alloc_past, *]
  have hB1 : Below w.heap.size w w1 := (by (repeat (first | (with_reducible refine Below.drew ?_) | (with_reducible refine below_drewN ?_ _) | (with_reducible refine Below.alloc ?_ (by first | omega | (simp; done) | (simp; omega) | (simp at *; omega)) _) | (with_reducible refine Below.setCell ?_ (by first | omega | (simp; done) | (simp; omega) | (simp at *; omega)) _) | (with_reducible exact Below.refl _ _) | (with_reducible assumption) | (with_reducible refine Below.trans ?_ (Below.mono (by assumption) (by first | omega | (simp; done) | (simp; omega) | (simp at *; omega)))))))
  have o1_0 : w.heap.size < w1.heap.size := by omega
  have n1_0 : w1.heap.size ≠ w.heap.size := by omega
  have t1_0_1 : w.heap.size < w1.heap.size + 1 := by omega
  have t1_0_2 : w.heap.size < w1.heap.size + 1 + 1 := by omega
  have t1_0_3 : w.heap.size < w1.heap.size + 1 + 1 + 1 := by omega
  have t1_0_4 : w.heap.size < w1.heap.size + 1 + 1 + 1 + 1 := by omega
  have t1_0_5 : w.heap.size < w1.heap.size + 1 + 1 + 1 + 1 + 1 := by omega
  have o1_1 : w.heap.size + 1 < w1.heap.size := by omega
  have n1_1 : w1.heap.size ≠ w.heap.size + 1 := by omega
  have t1_1_1 : w.heap.size + 1 < w1.heap.size + 1 := by omega
  have t1_1_2 : w.heap.size + 1 < w1.heap.size + 1 + 1 := by omega
  have t1_1_3 : w.heap.size + 1 < w1.heap.size + 1 + 1 + 1 := by omega
  have t1_1_4 : w.heap.size + 1 < w1.heap.size + 1 + 1 + 1 + 1 := by omega
  have t1_1_5 : w.heap.size + 1 < w1.heap.size + 1 + 1 + 1 + 1 + 1 := by omega
  have b1 : w.heap.size ≤ w1.heap.size := by omega
  clear hbw1
  go_wp2_with (first | (go_at_call 18; ((with_reducible refine (HS0.out _).mono ?_)); rintro e w' ⟨rfl, rfl⟩) | (go_at_call 18; ((with_reducible refine (HS1.out _).mono ?_)); rintro e w' ⟨rfl, rfl⟩))
  go_ret
  exact ⟨by first | rfl | simp, (by (repeat (first | (with_reducible refine Below.drew ?_) | (with_reducible refine below_drewN ?_ _) | (with_reducible refine Below.alloc ?_ (by first | omega | (simp; done) | (simp; omega) | (simp at *; omega)) _) | (with_reducible refine Below.setCell ?_ (by first | omega | (simp; done) | (simp; omega) | (simp at *; omega)) _) | (with_reducible exact Below.refl _ _) | (with_reducible assumption) | (with_reducible refine Below.trans ?_ (Below.mono (by assumption) (by first | omega | (simp; done) | (simp; omega) | (simp at *; omega)))))))⟩
set_option maxRecDepth 100000 in
set_option maxHeartbeats 2000000 in
theorem tissueProducts_h (s0 s1 h l0 l1 l2 : Int) (w : World) (hs0 : inB s0 0 500000 = true) (hs1 : inB s1 0 500000 = true) (hh : inB h 1 100000 = false) :
    Calls Try.prog 4 #[.agg #[.int .i64 s0, .int .i64 s1], .int .i64 h, .agg #[.int .i64 l0, .int .i64 l1, .int .i64 l2]] w fun e w' => e = .returned (.bool true) ∧ Below w.heap.size w w' := by
  have HS0 := Lib.hid (fun w => bWp_is s0 0 500000 true w hs0)
  have HS1 := Lib.hid (fun w => bWp_is s1 0 500000 true w hs1)
  obtain ⟨i0, i1⟩ := inB_iff.1 hs0
  obtain ⟨j0, j1⟩ := inB_iff.1 hs1
  have esum : IntKind.i64.wrap (s0 + s1) = s0 + s1 := IntWalk.i64_in _ (by omega)
  obtain ⟨c0, hc0⟩ : ∃ z, Hid (dcE s0 h l0 = z) := ⟨_, rfl⟩
  obtain ⟨c1, hc1⟩ : ∃ z, Hid (dcE s1 h l1 = z) := ⟨_, rfl⟩
  obtain ⟨c2, hc2⟩ : ∃ z, Hid (dcE (s0 + s1) h l2 = z) := ⟨_, rfl⟩
  obtain ⟨x0, hx0⟩ : ∃ z, Hid (dcL s0 h l0 = z) := ⟨_, rfl⟩
  obtain ⟨y0, hy0⟩ : ∃ z, Hid (dcH s0 h l0 = z) := ⟨_, rfl⟩
  obtain ⟨x1, hx1⟩ : ∃ z, Hid (dcL s1 h l1 = z) := ⟨_, rfl⟩
  obtain ⟨y1, hy1⟩ : ∃ z, Hid (dcH s1 h l1 = z) := ⟨_, rfl⟩
  obtain ⟨x2, hx2⟩ : ∃ z, Hid (dcL (s0 + s1) h l2 = z) := ⟨_, rfl⟩
  obtain ⟨y2, hy2⟩ : ∃ z, Hid (dcH (s0 + s1) h l2 = z) := ⟨_, rfl⟩
  have HD0 := Lib.hid (fun w => Decay_x s0 h l0 x0 y0 c0 w hx0.out hy0.out hc0.out)
  have HD1 := Lib.hid (fun w => Decay_x s1 h l1 x1 y1 c1 w hx1.out hy1.out hc1.out)
  have HD2 := Lib.hid (fun w => Decay_x (s0 + s1) h l2 x2 y2 c2 w hx2.out hy2.out hc2.out)
  have HH := Lib.hid (fun w => bWp_is h 1 100000 false w hh)
  have e0 : c0 = 2 := by
    rcases dcE_02 s0 h l0 with ⟨q, q1, q2, q3⟩ | ⟨q, _⟩
    · rw [hh] at q2; cases q2
    · rw [← hc0.out, q]
  have e1 : c1 = 2 := by
    rcases dcE_02 s1 h l1 with ⟨q, q1, q2, q3⟩ | ⟨q, _⟩
    · rw [hh] at q2; cases q2
    · rw [← hc1.out, q]
  have e2 : c2 = 2 := by
    rcases dcE_02 (s0 + s1) h l2 with ⟨q, q1, q2, q3⟩ | ⟨q, _⟩
    · rw [hh] at q2; cases q2
    · rw [← hc2.out, q]
  clear hh hc0 hc1 hc2
  clear hs0 hs1 hx0 hy0 hx1 hy1 hx2 hy2 i0 i1 j0 j1
  subst e0 e1 e2
  go_enter Try.func4, Try.ntmps4
  go_wp2_with fail
  refine (tawake_any _).mono ?_
  rintro e w1 ⟨rfl, hbw1⟩
  have z1 := hbw1.size
  try simp at z1
  have c1_0 : w1.cell? ⟨w.heap.size, 0, none⟩ = some (.int .i64 s0) := by rw [(bcell hbw1).1 _ _ (by first | (simp; done) | (simp; omega) | omega)]; simp [go_sem, World.cell?_alloc_past, *]
  have c1_1 : w1.cell? ⟨w.heap.size, 1, none⟩ = some (.int .i64 s1) := by rw [(bcell hbw1).1 _ _ (by first | (simp; done) | (simp; omega) | omega)]; simp [go_sem, World.cell?_alloc_past, *]
  have c1_2 : w1.cell? ⟨w.heap.size + 1, 0, none⟩ = some (.int .i64 l0) := by rw [(bcell hbw1).1 _ _ (by first | (simp; done) | (simp; omega) | omega)]; simp [go_sem, World.cell?_alloc_past, *]
  have c1_3 : w1.cell? ⟨w.heap.size + 1, 1, none⟩ = some (.int .i64 l1) := by rw [(bcell hbw1).1 _ _ (by first | (simp; done) | (simp; omega) | omega)]; simp [go_sem, World.cell?_alloc_past, *]
  have c1_4 : w1.cell? ⟨w.heap.size + 1, 2, none⟩ = some (.int .i64 l2) := by rw [(bcell hbw1).1 _ _ (by first | (simp; done) | (simp; omega) | omega)]; simp [go_sem, World.cell?_alloc_past, *]
  have hB1 : Below w.heap.size w w1 := (by (repeat (first | (with_reducible refine Below.drew ?_) | (with_reducible refine below_drewN ?_ _) | (with_reducible refine Below.alloc ?_ (by first | omega | (simp; done) | (simp; omega) | (simp at *; omega)) _) | (with_reducible refine Below.setCell ?_ (by first | omega | (simp; done) | (simp; omega) | (simp at *; omega)) _) | (with_reducible exact Below.refl _ _) | (with_reducible assumption) | (with_reducible refine Below.trans ?_ (Below.mono (by assumption) (by first | omega | (simp; done) | (simp; omega) | (simp at *; omega)))))))
  have o1_0 : w.heap.size < w1.heap.size := by omega
  have n1_0 : w1.heap.size ≠ w.heap.size := by omega
  have t1_0_1 : w.heap.size < w1.heap.size + 1 := by omega
  have t1_0_2 : w.heap.size < w1.heap.size + 1 + 1 := by omega
  have t1_0_3 : w.heap.size < w1.heap.size + 1 + 1 + 1 := by omega
  have t1_0_4 : w.heap.size < w1.heap.size + 1 + 1 + 1 + 1 := by omega
  have t1_0_5 : w.heap.size < w1.heap.size + 1 + 1 + 1 + 1 + 1 := by omega
  have o1_1 : w.heap.size + 1 < w1.heap.size := by omega
  have n1_1 : w1.heap.size ≠ w.heap.size + 1 := by omega
  have t1_1_1 : w.heap.size + 1 < w1.heap.size + 1 := by omega
  have t1_1_2 : w.heap.size + 1 < w1.heap.size + 1 + 1 := by omega
  have t1_1_3 : w.heap.size + 1 < w1.heap.size + 1 + 1 + 1 := by omega
  have t1_1_4 : w.heap.size + 1 < w1.heap.size + 1 + 1 + 1 + 1 := by omega
  have t1_1_5 : w.heap.size + 1 < w1.heap.size + 1 + 1 + 1 + 1 + 1 := by omega
  have b1 : w.heap.size ≤ w1.heap.size := by omega
  clear hbw1
  go_wp2_with (first | (go_at_call 18; ((with_reducible refine (HS0.out _).mono ?_)); rintro e w' ⟨rfl, rfl⟩) | (go_at_call 18; ((with_reducible refine (HS1.out _).mono ?_)); rintro e w' ⟨rfl, rfl⟩))
  refine (HD0.out _).mono ?_
  rintro e w2 ⟨rfl, hbw2⟩
  have z2 := hbw2.size
  try simp at z2
  have c2_0 : w2.cell? ⟨w.heap.size, 0, none⟩ = some (.int .i64 s0) := by rw [(bcell hbw2).1 _ _ (by first | (simp; done) | (simp; omega) | omega)]; simp [go_sem, World.cell?_alloc_past, *]
  have c2_1 : w2.cell? ⟨w.heap.size, 1, none⟩ = some (.int .i64 s1) := by rw [(bcell hbw2).1 _ _ (by first | (simp; done) | (simp; omega) | omega)]; simp [go_sem, World.cell?_alloc_past, *]
  have c2_2 : w2.cell? ⟨w.heap.size + 1, 0, none⟩ = some (.int .i64 l0) := by rw [(bcell hbw2).1 _ _ (by first | (simp; done) | (simp; omega) | omega)]; simp [go_sem, World.cell?_alloc_past, *]
  have c2_3 : w2.cell? ⟨w.heap.size + 1, 1, none⟩ = some (.int .i64 l1) := by rw [(bcell hbw2).1 _ _ (by first | (simp; done) | (simp; omega) | omega)]; simp [go_sem, World.cell?_alloc_past, *]
  have c2_4 : w2.cell? ⟨w.heap.size + 1, 2, none⟩ = some (.int .i64 l2) := by rw [(bcell hbw2).1 _ _ (by first | (simp; done) | (simp; omega) | omega)]; simp [go_sem, World.cell?_alloc_past, *]
  have hB2 : Below w.heap.size w w2 := (by (repeat (first | (with_reducible refine Below.drew ?_) | (with_reducible refine below_drewN ?_ _) | (with_reducible refine Below.alloc ?_ (by first | omega | (simp; done) | (simp; omega) | (simp at *; omega)) _) | (with_reducible refine Below.setCell ?_ (by first | omega | (simp; done) | (simp; omega) | (simp at *; omega)) _) | (with_reducible exact Below.refl _ _) | (with_reducible assumption) | (with_reducible refine Below.trans ?_ (Below.mono (by assumption) (by first | omega | (simp; done) | (simp; omega) | (simp at *; omega)))))))
  clear c1_0 c1_1 c1_2 c1_3 c1_4 o1_0 n1_0 t1_0_1 t1_0_2 t1_0_3 t1_0_4 t1_0_5 o1_1 n1_1 t1_1_1 t1_1_2 t1_1_3 t1_1_4 t1_1_5
  have o2_0 : w.heap.size < w2.heap.size := by omega
  have n2_0 : w2.heap.size ≠ w.heap.size := by omega
  have t2_0_1 : w.heap.size < w2.heap.size + 1 := by omega
  have t2_0_2 : w.heap.size < w2.heap.size + 1 + 1 := by omega
  have t2_0_3 : w.heap.size < w2.heap.size + 1 + 1 + 1 := by omega
  have t2_0_4 : w.heap.size < w2.heap.size + 1 + 1 + 1 + 1 := by omega
  have t2_0_5 : w.heap.size < w2.heap.size + 1 + 1 + 1 + 1 + 1 := by omega
  have o2_1 : w.heap.size + 1 < w2.heap.size := by omega
  have n2_1 : w2.heap.size ≠ w.heap.size + 1 := by omega
  have t2_1_1 : w.heap.size + 1 < w2.heap.size + 1 := by omega
  have t2_1_2 : w.heap.size + 1 < w2.heap.size + 1 + 1 := by omega
  have t2_1_3 : w.heap.size + 1 < w2.heap.size + 1 + 1 + 1 := by omega
  have t2_1_4 : w.heap.size + 1 < w2.heap.size + 1 + 1 + 1 + 1 := by omega
  have t2_1_5 : w.heap.size + 1 < w2.heap.size + 1 + 1 + 1 + 1 + 1 := by omega
  have b2 : w.heap.size ≤ w2.heap.size := by omega
  clear hbw2
  go_wp2_with fail
  refine (HD1.out _).mono ?_
  rintro e w3 ⟨rfl, hbw3⟩
  have z3 := hbw3.size
  try simp at z3
  have c3_0 : w3.cell? ⟨w.heap.size, 0, none⟩ = some (.int .i64 s0) := by rw [(bcell hbw3).1 _ _ (by first | (simp; done) | (simp; omega) | omega)]; simp [go_sem, World.cell?_alloc_past, *]
  have c3_1 : w3.cell? ⟨w.heap.size, 1, none⟩ = some (.int .i64 s1) := by rw [(bcell hbw3).1 _ _ (by first | (simp; done) | (simp; omega) | omega)]; simp [go_sem, World.cell?_alloc_past, *]
  have c3_2 : w3.cell? ⟨w.heap.size + 1, 0, none⟩ = some (.int .i64 l0) := by rw [(bcell hbw3).1 _ _ (by first | (simp; done) | (simp; omega) | omega)]; simp [go_sem, World.cell?_alloc_past, *]
  have c3_3 : w3.cell? ⟨w.heap.size + 1, 1, none⟩ = some (.int .i64 l1) := by rw [(bcell hbw3).1 _ _ (by first | (simp; done) | (simp; omega) | omega)]; simp [go_sem, World.cell?_alloc_past, *]
  have c3_4 : w3.cell? ⟨w.heap.size + 1, 2, none⟩ = some (.int .i64 l2) := by rw [(bcell hbw3).1 _ _ (by first | (simp; done) | (simp; omega) | omega)]; simp [go_sem, World.cell?_alloc_past, *]
  have c3_5 : w3.cell? ⟨w2.heap.size, 0, none⟩ = some (.int .i64 x0) := by rw [(bcell hbw3).1 _ _ (by first | (simp; done) | (simp; omega) | omega)]; simp [go_sem, World.cell?_alloc_past, *]
  have c3_6 : w3.cell? ⟨w2.heap.size, 1, none⟩ = some (.int .i64 y0) := by rw [(bcell hbw3).1 _ _ (by first | (simp; done) | (simp; omega) | omega)]; simp [go_sem, World.cell?_alloc_past, *]
  have hB3 : Below w.heap.size w w3 := (by (repeat (first | (with_reducible refine Below.drew ?_) | (with_reducible refine below_drewN ?_ _) | (with_reducible refine Below.alloc ?_ (by first | omega | (simp; done) | (simp; omega) | (simp at *; omega)) _) | (with_reducible refine Below.setCell ?_ (by first | omega | (simp; done) | (simp; omega) | (simp at *; omega)) _) | (with_reducible exact Below.refl _ _) | (with_reducible assumption) | (with_reducible refine Below.trans ?_ (Below.mono (by assumption) (by first | omega | (simp; done) | (simp; omega) | (simp at *; omega)))))))
  clear c2_0 c2_1 c2_2 c2_3 c2_4 o2_0 n2_0 t2_0_1 t2_0_2 t2_0_3 t2_0_4 t2_0_5 o2_1 n2_1 t2_1_1 t2_1_2 t2_1_3 t2_1_4 t2_1_5
  have o3_0 : w.heap.size < w3.heap.size := by omega
  have n3_0 : w3.heap.size ≠ w.heap.size := by omega
  have t3_0_1 : w.heap.size < w3.heap.size + 1 := by omega
  have t3_0_2 : w.heap.size < w3.heap.size + 1 + 1 := by omega
  have t3_0_3 : w.heap.size < w3.heap.size + 1 + 1 + 1 := by omega
  have t3_0_4 : w.heap.size < w3.heap.size + 1 + 1 + 1 + 1 := by omega
  have t3_0_5 : w.heap.size < w3.heap.size + 1 + 1 + 1 + 1 + 1 := by omega
  have o3_1 : w.heap.size + 1 < w3.heap.size := by omega
  have n3_1 : w3.heap.size ≠ w.heap.size + 1 := by omega
  have t3_1_1 : w.heap.size + 1 < w3.heap.size + 1 := by omega
  have t3_1_2 : w.heap.size + 1 < w3.heap.size + 1 + 1 := by omega
  have t3_1_3 : w.heap.size + 1 < w3.heap.size + 1 + 1 + 1 := by omega
  have t3_1_4 : w.heap.size + 1 < w3.heap.size + 1 + 1 + 1 + 1 := by omega
  have t3_1_5 : w.heap.size + 1 < w3.heap.size + 1 + 1 + 1 + 1 + 1 := by omega
  have o3_2 : w2.heap.size < w3.heap.size := by omega
  have n3_2 : w3.heap.size ≠ w2.heap.size := by omega
  have t3_2_1 : w2.heap.size < w3.heap.size + 1 := by omega
  have t3_2_2 : w2.heap.size < w3.heap.size + 1 + 1 := by omega
  have t3_2_3 : w2.heap.size < w3.heap.size + 1 + 1 + 1 := by omega
  have t3_2_4 : w2.heap.size < w3.heap.size + 1 + 1 + 1 + 1 := by omega
  have t3_2_5 : w2.heap.size < w3.heap.size + 1 + 1 + 1 + 1 + 1 := by omega
  have b3 : w.heap.size ≤ w3.heap.size := by omega
  clear hbw3
  go_wp2_with fail
  refine (HD2.out _).mono ?_
  rintro e w4 ⟨rfl, hbw4⟩
  have z4 := hbw4.size
  try simp at z4
  have c4_0 : w4.cell? ⟨w.heap.size, 0, none⟩ = some (.int .i64 s0) := by rw [(bcell hbw4).1 _ _ (by first | (simp; done) | (simp; omega) | omega)]; simp [go_sem, World.cell?_alloc_past, *]
  have c4_1 : w4.cell? ⟨w.heap.size, 1, none⟩ = some (.int .i64 s1) := by rw [(bcell hbw4).1 _ _ (by first | (simp; done) | (simp; omega) | omega)]; simp [go_sem, World.cell?_alloc_past, *]
  have c4_2 : w4.cell? ⟨w.heap.size + 1, 0, none⟩ = some (.int .i64 l0) := by rw [(bcell hbw4).1 _ _ (by first | (simp; done) | (simp; omega) | omega)]; simp [go_sem, World.cell?_alloc_past, *]
  have c4_3 : w4.cell? ⟨w.heap.size + 1, 1, none⟩ = some (.int .i64 l1) := by rw [(bcell hbw4).1 _ _ (by first | (simp; done) | (simp; omega) | omega)]; simp [go_sem, World.cell?_alloc_past, *]
  have c4_4 : w4.cell? ⟨w.heap.size + 1, 2, none⟩ = some (.int .i64 l2) := by rw [(bcell hbw4).1 _ _ (by first | (simp; done) | (simp; omega) | omega)]; simp [go_sem, World.cell?_alloc_past, *]
  have c4_5 : w4.cell? ⟨w2.heap.size, 0, none⟩ = some (.int .i64 x0) := by rw [(bcell hbw4).1 _ _ (by first | (simp; done) | (simp; omega) | omega)]; simp [go_sem, World.cell?_alloc_past, *]
  have c4_6 : w4.cell? ⟨w2.heap.size, 1, none⟩ = some (.int .i64 y0) := by rw [(bcell hbw4).1 _ _ (by first | (simp; done) | (simp; omega) | omega)]; simp [go_sem, World.cell?_alloc_past, *]
  have c4_7 : w4.cell? ⟨w3.heap.size, 0, none⟩ = some (.int .i64 x1) := by rw [(bcell hbw4).1 _ _ (by first | (simp; done) | (simp; omega) | omega)]; simp [go_sem, World.cell?_alloc_past, *]
  have c4_8 : w4.cell? ⟨w3.heap.size, 1, none⟩ = some (.int .i64 y1) := by rw [(bcell hbw4).1 _ _ (by first | (simp; done) | (simp; omega) | omega)]; simp [go_sem, World.cell?_alloc_past, *]
  have hB4 : Below w.heap.size w w4 := (by (repeat (first | (with_reducible refine Below.drew ?_) | (with_reducible refine below_drewN ?_ _) | (with_reducible refine Below.alloc ?_ (by first | omega | (simp; done) | (simp; omega) | (simp at *; omega)) _) | (with_reducible refine Below.setCell ?_ (by first | omega | (simp; done) | (simp; omega) | (simp at *; omega)) _) | (with_reducible exact Below.refl _ _) | (with_reducible assumption) | (with_reducible refine Below.trans ?_ (Below.mono (by assumption) (by first | omega | (simp; done) | (simp; omega) | (simp at *; omega)))))))
  clear c3_0 c3_1 c3_2 c3_3 c3_4 c3_5 c3_6 o3_0 n3_0 t3_0_1 t3_0_2 t3_0_3 t3_0_4 t3_0_5 o3_1 n3_1 t3_1_1 t3_1_2 t3_1_3 t3_1_4 t3_1_5 o3_2 n3_2 t3_2_1 t3_2_2 t3_2_3 t3_2_4 t3_2_5
  have o4_0 : w.heap.size < w4.heap.size := by omega
  have n4_0 : w4.heap.size ≠ w.heap.size := by omega
  have t4_0_1 : w.heap.size < w4.heap.size + 1 := by omega
  have t4_0_2 : w.heap.size < w4.heap.size + 1 + 1 := by omega
  have t4_0_3 : w.heap.size < w4.heap.size + 1 + 1 + 1 := by omega
  have t4_0_4 : w.heap.size < w4.heap.size + 1 + 1 + 1 + 1 := by omega
  have t4_0_5 : w.heap.size < w4.heap.size + 1 + 1 + 1 + 1 + 1 := by omega
  have o4_1 : w.heap.size + 1 < w4.heap.size := by omega
  have n4_1 : w4.heap.size ≠ w.heap.size + 1 := by omega
  have t4_1_1 : w.heap.size + 1 < w4.heap.size + 1 := by omega
  have t4_1_2 : w.heap.size + 1 < w4.heap.size + 1 + 1 := by omega
  have t4_1_3 : w.heap.size + 1 < w4.heap.size + 1 + 1 + 1 := by omega
  have t4_1_4 : w.heap.size + 1 < w4.heap.size + 1 + 1 + 1 + 1 := by omega
  have t4_1_5 : w.heap.size + 1 < w4.heap.size + 1 + 1 + 1 + 1 + 1 := by omega
  have o4_2 : w2.heap.size < w4.heap.size := by omega
  have n4_2 : w4.heap.size ≠ w2.heap.size := by omega
  have t4_2_1 : w2.heap.size < w4.heap.size + 1 := by omega
  have t4_2_2 : w2.heap.size < w4.heap.size + 1 + 1 := by omega
  have t4_2_3 : w2.heap.size < w4.heap.size + 1 + 1 + 1 := by omega
  have t4_2_4 : w2.heap.size < w4.heap.size + 1 + 1 + 1 + 1 := by omega
  have t4_2_5 : w2.heap.size < w4.heap.size + 1 + 1 + 1 + 1 + 1 := by omega
  have o4_3 : w3.heap.size < w4.heap.size := by omega
  have n4_3 : w4.heap.size ≠ w3.heap.size := by omega
  have t4_3_1 : w3.heap.size < w4.heap.size + 1 := by omega
  have t4_3_2 : w3.heap.size < w4.heap.size + 1 + 1 := by omega
  have t4_3_3 : w3.heap.size < w4.heap.size + 1 + 1 + 1 := by omega
  have t4_3_4 : w3.heap.size < w4.heap.size + 1 + 1 + 1 + 1 := by omega
  have t4_3_5 : w3.heap.size < w4.heap.size + 1 + 1 + 1 + 1 + 1 := by omega
  have b4 : w.heap.size ≤ w4.heap.size := by omega
  clear hbw4
  go_wp2_with (first | (go_at_call 18; ((with_reducible refine (HH.out _).mono ?_)); rintro e w' ⟨rfl, rfl⟩))
  go_ret
  exact ⟨by first | rfl | simp, (by (repeat (first | (with_reducible refine Below.drew ?_) | (with_reducible refine below_drewN ?_ _) | (with_reducible refine Below.alloc ?_ (by first | omega | (simp; done) | (simp; omega) | (simp at *; omega)) _) | (with_reducible refine Below.setCell ?_ (by first | omega | (simp; done) | (simp; omega) | (simp at *; omega)) _) | (with_reducible exact Below.refl _ _) | (with_reducible assumption) | (with_reducible refine Below.trans ?_ (Below.mono (by assumption) (by first | omega | (simp; done) | (simp; omega) | (simp at *; omega)))))))⟩
set_option maxRecDepth 100000 in
set_option maxHeartbeats 2000000 in
theorem tissueProducts_l0 (s0 s1 h l0 l1 l2 : Int) (w : World) (hs0 : inB s0 0 500000 = true) (hs1 : inB s1 0 500000 = true) (hh : inB h 1 100000 = true) (hl0 : inB l0 0 24 = false) :
    Calls Try.prog 4 #[.agg #[.int .i64 s0, .int .i64 s1], .int .i64 h, .agg #[.int .i64 l0, .int .i64 l1, .int .i64 l2]] w fun e w' => e = .returned (.bool true) ∧ Below w.heap.size w w' := by
  have HS0 := Lib.hid (fun w => bWp_is s0 0 500000 true w hs0)
  have HS1 := Lib.hid (fun w => bWp_is s1 0 500000 true w hs1)
  obtain ⟨i0, i1⟩ := inB_iff.1 hs0
  obtain ⟨j0, j1⟩ := inB_iff.1 hs1
  have esum : IntKind.i64.wrap (s0 + s1) = s0 + s1 := IntWalk.i64_in _ (by omega)
  obtain ⟨c0, hc0⟩ : ∃ z, Hid (dcE s0 h l0 = z) := ⟨_, rfl⟩
  obtain ⟨c1, hc1⟩ : ∃ z, Hid (dcE s1 h l1 = z) := ⟨_, rfl⟩
  obtain ⟨c2, hc2⟩ : ∃ z, Hid (dcE (s0 + s1) h l2 = z) := ⟨_, rfl⟩
  obtain ⟨x0, hx0⟩ : ∃ z, Hid (dcL s0 h l0 = z) := ⟨_, rfl⟩
  obtain ⟨y0, hy0⟩ : ∃ z, Hid (dcH s0 h l0 = z) := ⟨_, rfl⟩
  obtain ⟨x1, hx1⟩ : ∃ z, Hid (dcL s1 h l1 = z) := ⟨_, rfl⟩
  obtain ⟨y1, hy1⟩ : ∃ z, Hid (dcH s1 h l1 = z) := ⟨_, rfl⟩
  obtain ⟨x2, hx2⟩ : ∃ z, Hid (dcL (s0 + s1) h l2 = z) := ⟨_, rfl⟩
  obtain ⟨y2, hy2⟩ : ∃ z, Hid (dcH (s0 + s1) h l2 = z) := ⟨_, rfl⟩
  have HD0 := Lib.hid (fun w => Decay_x s0 h l0 x0 y0 c0 w hx0.out hy0.out hc0.out)
  have HD1 := Lib.hid (fun w => Decay_x s1 h l1 x1 y1 c1 w hx1.out hy1.out hc1.out)
  have HD2 := Lib.hid (fun w => Decay_x (s0 + s1) h l2 x2 y2 c2 w hx2.out hy2.out hc2.out)
  have HH := Lib.hid (fun w => bWp_is h 1 100000 true w hh)
  have HL0 := Lib.hid (fun w => bWp_is l0 0 24 false w hl0)
  have e0 : c0 = 2 := by
    rcases dcE_02 s0 h l0 with ⟨q, q1, q2, q3⟩ | ⟨q, _⟩
    · rw [hl0] at q3; cases q3
    · rw [← hc0.out, q]
  clear hh hl0 hc0 hc1 hc2
  clear hs0 hs1 hx0 hy0 hx1 hy1 hx2 hy2 i0 i1 j0 j1
  subst e0
  go_enter Try.func4, Try.ntmps4
  go_wp2_with fail
  refine (tawake_any _).mono ?_
  rintro e w1 ⟨rfl, hbw1⟩
  have z1 := hbw1.size
  try simp at z1
  have c1_0 : w1.cell? ⟨w.heap.size, 0, none⟩ = some (.int .i64 s0) := by rw [(bcell hbw1).1 _ _ (by first | (simp; done) | (simp; omega) | omega)]; simp [go_sem, World.cell?_alloc_past, *]
  have c1_1 : w1.cell? ⟨w.heap.size, 1, none⟩ = some (.int .i64 s1) := by rw [(bcell hbw1).1 _ _ (by first | (simp; done) | (simp; omega) | omega)]; simp [go_sem, World.cell?_alloc_past, *]
  have c1_2 : w1.cell? ⟨w.heap.size + 1, 0, none⟩ = some (.int .i64 l0) := by rw [(bcell hbw1).1 _ _ (by first | (simp; done) | (simp; omega) | omega)]; simp [go_sem, World.cell?_alloc_past, *]
  have c1_3 : w1.cell? ⟨w.heap.size + 1, 1, none⟩ = some (.int .i64 l1) := by rw [(bcell hbw1).1 _ _ (by first | (simp; done) | (simp; omega) | omega)]; simp [go_sem, World.cell?_alloc_past, *]
  have c1_4 : w1.cell? ⟨w.heap.size + 1, 2, none⟩ = some (.int .i64 l2) := by rw [(bcell hbw1).1 _ _ (by first | (simp; done) | (simp; omega) | omega)]; simp [go_sem, World.cell?_alloc_past, *]
  have hB1 : Below w.heap.size w w1 := (by (repeat (first | (with_reducible refine Below.drew ?_) | (with_reducible refine below_drewN ?_ _) | (with_reducible refine Below.alloc ?_ (by first | omega | (simp; done) | (simp; omega) | (simp at *; omega)) _) | (with_reducible refine Below.setCell ?_ (by first | omega | (simp; done) | (simp; omega) | (simp at *; omega)) _) | (with_reducible exact Below.refl _ _) | (with_reducible assumption) | (with_reducible refine Below.trans ?_ (Below.mono (by assumption) (by first | omega | (simp; done) | (simp; omega) | (simp at *; omega)))))))
  have o1_0 : w.heap.size < w1.heap.size := by omega
  have n1_0 : w1.heap.size ≠ w.heap.size := by omega
  have t1_0_1 : w.heap.size < w1.heap.size + 1 := by omega
  have t1_0_2 : w.heap.size < w1.heap.size + 1 + 1 := by omega
  have t1_0_3 : w.heap.size < w1.heap.size + 1 + 1 + 1 := by omega
  have t1_0_4 : w.heap.size < w1.heap.size + 1 + 1 + 1 + 1 := by omega
  have t1_0_5 : w.heap.size < w1.heap.size + 1 + 1 + 1 + 1 + 1 := by omega
  have o1_1 : w.heap.size + 1 < w1.heap.size := by omega
  have n1_1 : w1.heap.size ≠ w.heap.size + 1 := by omega
  have t1_1_1 : w.heap.size + 1 < w1.heap.size + 1 := by omega
  have t1_1_2 : w.heap.size + 1 < w1.heap.size + 1 + 1 := by omega
  have t1_1_3 : w.heap.size + 1 < w1.heap.size + 1 + 1 + 1 := by omega
  have t1_1_4 : w.heap.size + 1 < w1.heap.size + 1 + 1 + 1 + 1 := by omega
  have t1_1_5 : w.heap.size + 1 < w1.heap.size + 1 + 1 + 1 + 1 + 1 := by omega
  have b1 : w.heap.size ≤ w1.heap.size := by omega
  clear hbw1
  go_wp2_with (first | (go_at_call 18; ((with_reducible refine (HS0.out _).mono ?_)); rintro e w' ⟨rfl, rfl⟩) | (go_at_call 18; ((with_reducible refine (HS1.out _).mono ?_)); rintro e w' ⟨rfl, rfl⟩))
  refine (HD0.out _).mono ?_
  rintro e w2 ⟨rfl, hbw2⟩
  have z2 := hbw2.size
  try simp at z2
  have c2_0 : w2.cell? ⟨w.heap.size, 0, none⟩ = some (.int .i64 s0) := by rw [(bcell hbw2).1 _ _ (by first | (simp; done) | (simp; omega) | omega)]; simp [go_sem, World.cell?_alloc_past, *]
  have c2_1 : w2.cell? ⟨w.heap.size, 1, none⟩ = some (.int .i64 s1) := by rw [(bcell hbw2).1 _ _ (by first | (simp; done) | (simp; omega) | omega)]; simp [go_sem, World.cell?_alloc_past, *]
  have c2_2 : w2.cell? ⟨w.heap.size + 1, 0, none⟩ = some (.int .i64 l0) := by rw [(bcell hbw2).1 _ _ (by first | (simp; done) | (simp; omega) | omega)]; simp [go_sem, World.cell?_alloc_past, *]
  have c2_3 : w2.cell? ⟨w.heap.size + 1, 1, none⟩ = some (.int .i64 l1) := by rw [(bcell hbw2).1 _ _ (by first | (simp; done) | (simp; omega) | omega)]; simp [go_sem, World.cell?_alloc_past, *]
  have c2_4 : w2.cell? ⟨w.heap.size + 1, 2, none⟩ = some (.int .i64 l2) := by rw [(bcell hbw2).1 _ _ (by first | (simp; done) | (simp; omega) | omega)]; simp [go_sem, World.cell?_alloc_past, *]
  have hB2 : Below w.heap.size w w2 := (by (repeat (first | (with_reducible refine Below.drew ?_) | (with_reducible refine below_drewN ?_ _) | (with_reducible refine Below.alloc ?_ (by first | omega | (simp; done) | (simp; omega) | (simp at *; omega)) _) | (with_reducible refine Below.setCell ?_ (by first | omega | (simp; done) | (simp; omega) | (simp at *; omega)) _) | (with_reducible exact Below.refl _ _) | (with_reducible assumption) | (with_reducible refine Below.trans ?_ (Below.mono (by assumption) (by first | omega | (simp; done) | (simp; omega) | (simp at *; omega)))))))
  clear c1_0 c1_1 c1_2 c1_3 c1_4 o1_0 n1_0 t1_0_1 t1_0_2 t1_0_3 t1_0_4 t1_0_5 o1_1 n1_1 t1_1_1 t1_1_2 t1_1_3 t1_1_4 t1_1_5
  have o2_0 : w.heap.size < w2.heap.size := by omega
  have n2_0 : w2.heap.size ≠ w.heap.size := by omega
  have t2_0_1 : w.heap.size < w2.heap.size + 1 := by omega
  have t2_0_2 : w.heap.size < w2.heap.size + 1 + 1 := by omega
  have t2_0_3 : w.heap.size < w2.heap.size + 1 + 1 + 1 := by omega
  have t2_0_4 : w.heap.size < w2.heap.size + 1 + 1 + 1 + 1 := by omega
  have t2_0_5 : w.heap.size < w2.heap.size + 1 + 1 + 1 + 1 + 1 := by omega
  have o2_1 : w.heap.size + 1 < w2.heap.size := by omega
  have n2_1 : w2.heap.size ≠ w.heap.size + 1 := by omega
  have t2_1_1 : w.heap.size + 1 < w2.heap.size + 1 := by omega
  have t2_1_2 : w.heap.size + 1 < w2.heap.size + 1 + 1 := by omega
  have t2_1_3 : w.heap.size + 1 < w2.heap.size + 1 + 1 + 1 := by omega
  have t2_1_4 : w.heap.size + 1 < w2.heap.size + 1 + 1 + 1 + 1 := by omega
  have t2_1_5 : w.heap.size + 1 < w2.heap.size + 1 + 1 + 1 + 1 + 1 := by omega
  have b2 : w.heap.size ≤ w2.heap.size := by omega
  clear hbw2
  go_wp2_with fail
  refine (HD1.out _).mono ?_
  rintro e w3 ⟨rfl, hbw3⟩
  have z3 := hbw3.size
  try simp at z3
  have c3_0 : w3.cell? ⟨w.heap.size, 0, none⟩ = some (.int .i64 s0) := by rw [(bcell hbw3).1 _ _ (by first | (simp; done) | (simp; omega) | omega)]; simp [go_sem, World.cell?_alloc_past, *]
  have c3_1 : w3.cell? ⟨w.heap.size, 1, none⟩ = some (.int .i64 s1) := by rw [(bcell hbw3).1 _ _ (by first | (simp; done) | (simp; omega) | omega)]; simp [go_sem, World.cell?_alloc_past, *]
  have c3_2 : w3.cell? ⟨w.heap.size + 1, 0, none⟩ = some (.int .i64 l0) := by rw [(bcell hbw3).1 _ _ (by first | (simp; done) | (simp; omega) | omega)]; simp [go_sem, World.cell?_alloc_past, *]
  have c3_3 : w3.cell? ⟨w.heap.size + 1, 1, none⟩ = some (.int .i64 l1) := by rw [(bcell hbw3).1 _ _ (by first | (simp; done) | (simp; omega) | omega)]; simp [go_sem, World.cell?_alloc_past, *]
  have c3_4 : w3.cell? ⟨w.heap.size + 1, 2, none⟩ = some (.int .i64 l2) := by rw [(bcell hbw3).1 _ _ (by first | (simp; done) | (simp; omega) | omega)]; simp [go_sem, World.cell?_alloc_past, *]
  have c3_5 : w3.cell? ⟨w2.heap.size, 0, none⟩ = some (.int .i64 x0) := by rw [(bcell hbw3).1 _ _ (by first | (simp; done) | (simp; omega) | omega)]; simp [go_sem, World.cell?_alloc_past, *]
  have c3_6 : w3.cell? ⟨w2.heap.size, 1, none⟩ = some (.int .i64 y0) := by rw [(bcell hbw3).1 _ _ (by first | (simp; done) | (simp; omega) | omega)]; simp [go_sem, World.cell?_alloc_past, *]
  have hB3 : Below w.heap.size w w3 := (by (repeat (first | (with_reducible refine Below.drew ?_) | (with_reducible refine below_drewN ?_ _) | (with_reducible refine Below.alloc ?_ (by first | omega | (simp; done) | (simp; omega) | (simp at *; omega)) _) | (with_reducible refine Below.setCell ?_ (by first | omega | (simp; done) | (simp; omega) | (simp at *; omega)) _) | (with_reducible exact Below.refl _ _) | (with_reducible assumption) | (with_reducible refine Below.trans ?_ (Below.mono (by assumption) (by first | omega | (simp; done) | (simp; omega) | (simp at *; omega)))))))
  clear c2_0 c2_1 c2_2 c2_3 c2_4 o2_0 n2_0 t2_0_1 t2_0_2 t2_0_3 t2_0_4 t2_0_5 o2_1 n2_1 t2_1_1 t2_1_2 t2_1_3 t2_1_4 t2_1_5
  have o3_0 : w.heap.size < w3.heap.size := by omega
  have n3_0 : w3.heap.size ≠ w.heap.size := by omega
  have t3_0_1 : w.heap.size < w3.heap.size + 1 := by omega
  have t3_0_2 : w.heap.size < w3.heap.size + 1 + 1 := by omega
  have t3_0_3 : w.heap.size < w3.heap.size + 1 + 1 + 1 := by omega
  have t3_0_4 : w.heap.size < w3.heap.size + 1 + 1 + 1 + 1 := by omega
  have t3_0_5 : w.heap.size < w3.heap.size + 1 + 1 + 1 + 1 + 1 := by omega
  have o3_1 : w.heap.size + 1 < w3.heap.size := by omega
  have n3_1 : w3.heap.size ≠ w.heap.size + 1 := by omega
  have t3_1_1 : w.heap.size + 1 < w3.heap.size + 1 := by omega
  have t3_1_2 : w.heap.size + 1 < w3.heap.size + 1 + 1 := by omega
  have t3_1_3 : w.heap.size + 1 < w3.heap.size + 1 + 1 + 1 := by omega
  have t3_1_4 : w.heap.size + 1 < w3.heap.size + 1 + 1 + 1 + 1 := by omega
  have t3_1_5 : w.heap.size + 1 < w3.heap.size + 1 + 1 + 1 + 1 + 1 := by omega
  have o3_2 : w2.heap.size < w3.heap.size := by omega
  have n3_2 : w3.heap.size ≠ w2.heap.size := by omega
  have t3_2_1 : w2.heap.size < w3.heap.size + 1 := by omega
  have t3_2_2 : w2.heap.size < w3.heap.size + 1 + 1 := by omega
  have t3_2_3 : w2.heap.size < w3.heap.size + 1 + 1 + 1 := by omega
  have t3_2_4 : w2.heap.size < w3.heap.size + 1 + 1 + 1 + 1 := by omega
  have t3_2_5 : w2.heap.size < w3.heap.size + 1 + 1 + 1 + 1 + 1 := by omega
  have b3 : w.heap.size ≤ w3.heap.size := by omega
  clear hbw3
  go_wp2_with fail
  refine (HD2.out _).mono ?_
  rintro e w4 ⟨rfl, hbw4⟩
  have z4 := hbw4.size
  try simp at z4
  have c4_0 : w4.cell? ⟨w.heap.size, 0, none⟩ = some (.int .i64 s0) := by rw [(bcell hbw4).1 _ _ (by first | (simp; done) | (simp; omega) | omega)]; simp [go_sem, World.cell?_alloc_past, *]
  have c4_1 : w4.cell? ⟨w.heap.size, 1, none⟩ = some (.int .i64 s1) := by rw [(bcell hbw4).1 _ _ (by first | (simp; done) | (simp; omega) | omega)]; simp [go_sem, World.cell?_alloc_past, *]
  have c4_2 : w4.cell? ⟨w.heap.size + 1, 0, none⟩ = some (.int .i64 l0) := by rw [(bcell hbw4).1 _ _ (by first | (simp; done) | (simp; omega) | omega)]; simp [go_sem, World.cell?_alloc_past, *]
  have c4_3 : w4.cell? ⟨w.heap.size + 1, 1, none⟩ = some (.int .i64 l1) := by rw [(bcell hbw4).1 _ _ (by first | (simp; done) | (simp; omega) | omega)]; simp [go_sem, World.cell?_alloc_past, *]
  have c4_4 : w4.cell? ⟨w.heap.size + 1, 2, none⟩ = some (.int .i64 l2) := by rw [(bcell hbw4).1 _ _ (by first | (simp; done) | (simp; omega) | omega)]; simp [go_sem, World.cell?_alloc_past, *]
  have c4_5 : w4.cell? ⟨w2.heap.size, 0, none⟩ = some (.int .i64 x0) := by rw [(bcell hbw4).1 _ _ (by first | (simp; done) | (simp; omega) | omega)]; simp [go_sem, World.cell?_alloc_past, *]
  have c4_6 : w4.cell? ⟨w2.heap.size, 1, none⟩ = some (.int .i64 y0) := by rw [(bcell hbw4).1 _ _ (by first | (simp; done) | (simp; omega) | omega)]; simp [go_sem, World.cell?_alloc_past, *]
  have c4_7 : w4.cell? ⟨w3.heap.size, 0, none⟩ = some (.int .i64 x1) := by rw [(bcell hbw4).1 _ _ (by first | (simp; done) | (simp; omega) | omega)]; simp [go_sem, World.cell?_alloc_past, *]
  have c4_8 : w4.cell? ⟨w3.heap.size, 1, none⟩ = some (.int .i64 y1) := by rw [(bcell hbw4).1 _ _ (by first | (simp; done) | (simp; omega) | omega)]; simp [go_sem, World.cell?_alloc_past, *]
  have hB4 : Below w.heap.size w w4 := (by (repeat (first | (with_reducible refine Below.drew ?_) | (with_reducible refine below_drewN ?_ _) | (with_reducible refine Below.alloc ?_ (by first | omega | (simp; done) | (simp; omega) | (simp at *; omega)) _) | (with_reducible refine Below.setCell ?_ (by first | omega | (simp; done) | (simp; omega) | (simp at *; omega)) _) | (with_reducible exact Below.refl _ _) | (with_reducible assumption) | (with_reducible refine Below.trans ?_ (Below.mono (by assumption) (by first | omega | (simp; done) | (simp; omega) | (simp at *; omega)))))))
  clear c3_0 c3_1 c3_2 c3_3 c3_4 c3_5 c3_6 o3_0 n3_0 t3_0_1 t3_0_2 t3_0_3 t3_0_4 t3_0_5 o3_1 n3_1 t3_1_1 t3_1_2 t3_1_3 t3_1_4 t3_1_5 o3_2 n3_2 t3_2_1 t3_2_2 t3_2_3 t3_2_4 t3_2_5
  have o4_0 : w.heap.size < w4.heap.size := by omega
  have n4_0 : w4.heap.size ≠ w.heap.size := by omega
  have t4_0_1 : w.heap.size < w4.heap.size + 1 := by omega
  have t4_0_2 : w.heap.size < w4.heap.size + 1 + 1 := by omega
  have t4_0_3 : w.heap.size < w4.heap.size + 1 + 1 + 1 := by omega
  have t4_0_4 : w.heap.size < w4.heap.size + 1 + 1 + 1 + 1 := by omega
  have t4_0_5 : w.heap.size < w4.heap.size + 1 + 1 + 1 + 1 + 1 := by omega
  have o4_1 : w.heap.size + 1 < w4.heap.size := by omega
  have n4_1 : w4.heap.size ≠ w.heap.size + 1 := by omega
  have t4_1_1 : w.heap.size + 1 < w4.heap.size + 1 := by omega
  have t4_1_2 : w.heap.size + 1 < w4.heap.size + 1 + 1 := by omega
  have t4_1_3 : w.heap.size + 1 < w4.heap.size + 1 + 1 + 1 := by omega
  have t4_1_4 : w.heap.size + 1 < w4.heap.size + 1 + 1 + 1 + 1 := by omega
  have t4_1_5 : w.heap.size + 1 < w4.heap.size + 1 + 1 + 1 + 1 + 1 := by omega
  have o4_2 : w2.heap.size < w4.heap.size := by omega
  have n4_2 : w4.heap.size ≠ w2.heap.size := by omega
  have t4_2_1 : w2.heap.size < w4.heap.size + 1 := by omega
  have t4_2_2 : w2.heap.size < w4.heap.size + 1 + 1 := by omega
  have t4_2_3 : w2.heap.size < w4.heap.size + 1 + 1 + 1 := by omega
  have t4_2_4 : w2.heap.size < w4.heap.size + 1 + 1 + 1 + 1 := by omega
  have t4_2_5 : w2.heap.size < w4.heap.size + 1 + 1 + 1 + 1 + 1 := by omega
  have o4_3 : w3.heap.size < w4.heap.size := by omega
  have n4_3 : w4.heap.size ≠ w3.heap.size := by omega
  have t4_3_1 : w3.heap.size < w4.heap.size + 1 := by omega
  have t4_3_2 : w3.heap.size < w4.heap.size + 1 + 1 := by omega
  have t4_3_3 : w3.heap.size < w4.heap.size + 1 + 1 + 1 := by omega
  have t4_3_4 : w3.heap.size < w4.heap.size + 1 + 1 + 1 + 1 := by omega
  have t4_3_5 : w3.heap.size < w4.heap.size + 1 + 1 + 1 + 1 + 1 := by omega
  have b4 : w.heap.size ≤ w4.heap.size := by omega
  clear hbw4
  go_wp2_with (first | (go_at_call 18; ((with_reducible refine (HH.out _).mono ?_)); rintro e w' ⟨rfl, rfl⟩) | (go_at_call 18; ((with_reducible refine (HL0.out _).mono ?_)); rintro e w' ⟨rfl, rfl⟩))
  go_ret
  exact ⟨by first | rfl | simp, (by (repeat (first | (with_reducible refine Below.drew ?_) | (with_reducible refine below_drewN ?_ _) | (with_reducible refine Below.alloc ?_ (by first | omega | (simp; done) | (simp; omega) | (simp at *; omega)) _) | (with_reducible refine Below.setCell ?_ (by first | omega | (simp; done) | (simp; omega) | (simp at *; omega)) _) | (with_reducible exact Below.refl _ _) | (with_reducible assumption) | (with_reducible refine Below.trans ?_ (Below.mono (by assumption) (by first | omega | (simp; done) | (simp; omega) | (simp at *; omega)))))))⟩
set_option maxRecDepth 100000 in
set_option maxHeartbeats 2000000 in
theorem tissueProducts_l1 (s0 s1 h l0 l1 l2 : Int) (w : World) (hs0 : inB s0 0 500000 = true) (hs1 : inB s1 0 500000 = true) (hh : inB h 1 100000 = true) (hl0 : inB l0 0 24 = true) (hl1 : inB l1 0 24 = false) :
    Calls Try.prog 4 #[.agg #[.int .i64 s0, .int .i64 s1], .int .i64 h, .agg #[.int .i64 l0, .int .i64 l1, .int .i64 l2]] w fun e w' => e = .returned (.bool true) ∧ Below w.heap.size w w' := by
  have HS0 := Lib.hid (fun w => bWp_is s0 0 500000 true w hs0)
  have HS1 := Lib.hid (fun w => bWp_is s1 0 500000 true w hs1)
  obtain ⟨i0, i1⟩ := inB_iff.1 hs0
  obtain ⟨j0, j1⟩ := inB_iff.1 hs1
  have esum : IntKind.i64.wrap (s0 + s1) = s0 + s1 := IntWalk.i64_in _ (by omega)
  obtain ⟨c0, hc0⟩ : ∃ z, Hid (dcE s0 h l0 = z) := ⟨_, rfl⟩
  obtain ⟨c1, hc1⟩ : ∃ z, Hid (dcE s1 h l1 = z) := ⟨_, rfl⟩
  obtain ⟨c2, hc2⟩ : ∃ z, Hid (dcE (s0 + s1) h l2 = z) := ⟨_, rfl⟩
  obtain ⟨x0, hx0⟩ : ∃ z, Hid (dcL s0 h l0 = z) := ⟨_, rfl⟩
  obtain ⟨y0, hy0⟩ : ∃ z, Hid (dcH s0 h l0 = z) := ⟨_, rfl⟩
  obtain ⟨x1, hx1⟩ : ∃ z, Hid (dcL s1 h l1 = z) := ⟨_, rfl⟩
  obtain ⟨y1, hy1⟩ : ∃ z, Hid (dcH s1 h l1 = z) := ⟨_, rfl⟩
  obtain ⟨x2, hx2⟩ : ∃ z, Hid (dcL (s0 + s1) h l2 = z) := ⟨_, rfl⟩
  obtain ⟨y2, hy2⟩ : ∃ z, Hid (dcH (s0 + s1) h l2 = z) := ⟨_, rfl⟩
  have HD0 := Lib.hid (fun w => Decay_x s0 h l0 x0 y0 c0 w hx0.out hy0.out hc0.out)
  have HD1 := Lib.hid (fun w => Decay_x s1 h l1 x1 y1 c1 w hx1.out hy1.out hc1.out)
  have HD2 := Lib.hid (fun w => Decay_x (s0 + s1) h l2 x2 y2 c2 w hx2.out hy2.out hc2.out)
  have HH := Lib.hid (fun w => bWp_is h 1 100000 true w hh)
  have HL0 := Lib.hid (fun w => bWp_is l0 0 24 true w hl0)
  have HL1 := Lib.hid (fun w => bWp_is l1 0 24 false w hl1)
  have e0 : c0 = 0 := by
    rcases dcE_02 s0 h l0 with ⟨q, _⟩ | ⟨q, q1 | q1 | q1⟩
    · rw [← hc0.out, q]
    · have := inB_not.1 q1; omega
    · rw [hh] at q1; cases q1
    · rw [hl0] at q1; cases q1
  have e1 : c1 = 2 := by
    rcases dcE_02 s1 h l1 with ⟨q, q1, q2, q3⟩ | ⟨q, _⟩
    · rw [hl1] at q3; cases q3
    · rw [← hc1.out, q]
  clear hh hl0 hl1 hc0 hc1 hc2
  clear hs0 hs1 hx0 hy0 hx1 hy1 hx2 hy2 i0 i1 j0 j1
  subst e0 e1
  go_enter Try.func4, Try.ntmps4
  go_wp2_with fail
  refine (tawake_any _).mono ?_
  rintro e w1 ⟨rfl, hbw1⟩
  have z1 := hbw1.size
  try simp at z1
  have c1_0 : w1.cell? ⟨w.heap.size, 0, none⟩ = some (.int .i64 s0) := by rw [(bcell hbw1).1 _ _ (by first | (simp; done) | (simp; omega) | omega)]; simp [go_sem, World.cell?_alloc_past, *]
  have c1_1 : w1.cell? ⟨w.heap.size, 1, none⟩ = some (.int .i64 s1) := by rw [(bcell hbw1).1 _ _ (by first | (simp; done) | (simp; omega) | omega)]; simp [go_sem, World.cell?_alloc_past, *]
  have c1_2 : w1.cell? ⟨w.heap.size + 1, 0, none⟩ = some (.int .i64 l0) := by rw [(bcell hbw1).1 _ _ (by first | (simp; done) | (simp; omega) | omega)]; simp [go_sem, World.cell?_alloc_past, *]
  have c1_3 : w1.cell? ⟨w.heap.size + 1, 1, none⟩ = some (.int .i64 l1) := by rw [(bcell hbw1).1 _ _ (by first | (simp; done) | (simp; omega) | omega)]; simp [go_sem, World.cell?_alloc_past, *]
  have c1_4 : w1.cell? ⟨w.heap.size + 1, 2, none⟩ = some (.int .i64 l2) := by rw [(bcell hbw1).1 _ _ (by first | (simp; done) | (simp; omega) | omega)]; simp [go_sem, World.cell?_alloc_past, *]
  have hB1 : Below w.heap.size w w1 := (by (repeat (first | (with_reducible refine Below.drew ?_) | (with_reducible refine below_drewN ?_ _) | (with_reducible refine Below.alloc ?_ (by first | omega | (simp; done) | (simp; omega) | (simp at *; omega)) _) | (with_reducible refine Below.setCell ?_ (by first | omega | (simp; done) | (simp; omega) | (simp at *; omega)) _) | (with_reducible exact Below.refl _ _) | (with_reducible assumption) | (with_reducible refine Below.trans ?_ (Below.mono (by assumption) (by first | omega | (simp; done) | (simp; omega) | (simp at *; omega)))))))
  have o1_0 : w.heap.size < w1.heap.size := by omega
  have n1_0 : w1.heap.size ≠ w.heap.size := by omega
  have t1_0_1 : w.heap.size < w1.heap.size + 1 := by omega
  have t1_0_2 : w.heap.size < w1.heap.size + 1 + 1 := by omega
  have t1_0_3 : w.heap.size < w1.heap.size + 1 + 1 + 1 := by omega
  have t1_0_4 : w.heap.size < w1.heap.size + 1 + 1 + 1 + 1 := by omega
  have t1_0_5 : w.heap.size < w1.heap.size + 1 + 1 + 1 + 1 + 1 := by omega
  have o1_1 : w.heap.size + 1 < w1.heap.size := by omega
  have n1_1 : w1.heap.size ≠ w.heap.size + 1 := by omega
  have t1_1_1 : w.heap.size + 1 < w1.heap.size + 1 := by omega
  have t1_1_2 : w.heap.size + 1 < w1.heap.size + 1 + 1 := by omega
  have t1_1_3 : w.heap.size + 1 < w1.heap.size + 1 + 1 + 1 := by omega
  have t1_1_4 : w.heap.size + 1 < w1.heap.size + 1 + 1 + 1 + 1 := by omega
  have t1_1_5 : w.heap.size + 1 < w1.heap.size + 1 + 1 + 1 + 1 + 1 := by omega
  have b1 : w.heap.size ≤ w1.heap.size := by omega
  clear hbw1
  go_wp2_with (first | (go_at_call 18; ((with_reducible refine (HS0.out _).mono ?_)); rintro e w' ⟨rfl, rfl⟩) | (go_at_call 18; ((with_reducible refine (HS1.out _).mono ?_)); rintro e w' ⟨rfl, rfl⟩))
  refine (HD0.out _).mono ?_
  rintro e w2 ⟨rfl, hbw2⟩
  have z2 := hbw2.size
  try simp at z2
  have c2_0 : w2.cell? ⟨w.heap.size, 0, none⟩ = some (.int .i64 s0) := by rw [(bcell hbw2).1 _ _ (by first | (simp; done) | (simp; omega) | omega)]; simp [go_sem, World.cell?_alloc_past, *]
  have c2_1 : w2.cell? ⟨w.heap.size, 1, none⟩ = some (.int .i64 s1) := by rw [(bcell hbw2).1 _ _ (by first | (simp; done) | (simp; omega) | omega)]; simp [go_sem, World.cell?_alloc_past, *]
  have c2_2 : w2.cell? ⟨w.heap.size + 1, 0, none⟩ = some (.int .i64 l0) := by rw [(bcell hbw2).1 _ _ (by first | (simp; done) | (simp; omega) | omega)]; simp [go_sem, World.cell?_alloc_past, *]
  have c2_3 : w2.cell? ⟨w.heap.size + 1, 1, none⟩ = some (.int .i64 l1) := by rw [(bcell hbw2).1 _ _ (by first | (simp; done) | (simp; omega) | omega)]; simp [go_sem, World.cell?_alloc_past, *]
  have c2_4 : w2.cell? ⟨w.heap.size + 1, 2, none⟩ = some (.int .i64 l2) := by rw [(bcell hbw2).1 _ _ (by first | (simp; done) | (simp; omega) | omega)]; simp [go_sem, World.cell?_alloc_past, *]
  have hB2 : Below w.heap.size w w2 := (by (repeat (first | (with_reducible refine Below.drew ?_) | (with_reducible refine below_drewN ?_ _) | (with_reducible refine Below.alloc ?_ (by first | omega | (simp; done) | (simp; omega) | (simp at *; omega)) _) | (with_reducible refine Below.setCell ?_ (by first | omega | (simp; done) | (simp; omega) | (simp at *; omega)) _) | (with_reducible exact Below.refl _ _) | (with_reducible assumption) | (with_reducible refine Below.trans ?_ (Below.mono (by assumption) (by first | omega | (simp; done) | (simp; omega) | (simp at *; omega)))))))
  clear c1_0 c1_1 c1_2 c1_3 c1_4 o1_0 n1_0 t1_0_1 t1_0_2 t1_0_3 t1_0_4 t1_0_5 o1_1 n1_1 t1_1_1 t1_1_2 t1_1_3 t1_1_4 t1_1_5
  have o2_0 : w.heap.size < w2.heap.size := by omega
  have n2_0 : w2.heap.size ≠ w.heap.size := by omega
  have t2_0_1 : w.heap.size < w2.heap.size + 1 := by omega
  have t2_0_2 : w.heap.size < w2.heap.size + 1 + 1 := by omega
  have t2_0_3 : w.heap.size < w2.heap.size + 1 + 1 + 1 := by omega
  have t2_0_4 : w.heap.size < w2.heap.size + 1 + 1 + 1 + 1 := by omega
  have t2_0_5 : w.heap.size < w2.heap.size + 1 + 1 + 1 + 1 + 1 := by omega
  have o2_1 : w.heap.size + 1 < w2.heap.size := by omega
  have n2_1 : w2.heap.size ≠ w.heap.size + 1 := by omega
  have t2_1_1 : w.heap.size + 1 < w2.heap.size + 1 := by omega
  have t2_1_2 : w.heap.size + 1 < w2.heap.size + 1 + 1 := by omega
  have t2_1_3 : w.heap.size + 1 < w2.heap.size + 1 + 1 + 1 := by omega
  have t2_1_4 : w.heap.size + 1 < w2.heap.size + 1 + 1 + 1 + 1 := by omega
  have t2_1_5 : w.heap.size + 1 < w2.heap.size + 1 + 1 + 1 + 1 + 1 := by omega
  have b2 : w.heap.size ≤ w2.heap.size := by omega
  clear hbw2
  go_wp2_with fail
  refine (HD1.out _).mono ?_
  rintro e w3 ⟨rfl, hbw3⟩
  have z3 := hbw3.size
  try simp at z3
  have c3_0 : w3.cell? ⟨w.heap.size, 0, none⟩ = some (.int .i64 s0) := by rw [(bcell hbw3).1 _ _ (by first | (simp; done) | (simp; omega) | omega)]; simp [go_sem, World.cell?_alloc_past, *]
  have c3_1 : w3.cell? ⟨w.heap.size, 1, none⟩ = some (.int .i64 s1) := by rw [(bcell hbw3).1 _ _ (by first | (simp; done) | (simp; omega) | omega)]; simp [go_sem, World.cell?_alloc_past, *]
  have c3_2 : w3.cell? ⟨w.heap.size + 1, 0, none⟩ = some (.int .i64 l0) := by rw [(bcell hbw3).1 _ _ (by first | (simp; done) | (simp; omega) | omega)]; simp [go_sem, World.cell?_alloc_past, *]
  have c3_3 : w3.cell? ⟨w.heap.size + 1, 1, none⟩ = some (.int .i64 l1) := by rw [(bcell hbw3).1 _ _ (by first | (simp; done) | (simp; omega) | omega)]; simp [go_sem, World.cell?_alloc_past, *]
  have c3_4 : w3.cell? ⟨w.heap.size + 1, 2, none⟩ = some (.int .i64 l2) := by rw [(bcell hbw3).1 _ _ (by first | (simp; done) | (simp; omega) | omega)]; simp [go_sem, World.cell?_alloc_past, *]
  have c3_5 : w3.cell? ⟨w2.heap.size, 0, none⟩ = some (.int .i64 x0) := by rw [(bcell hbw3).1 _ _ (by first | (simp; done) | (simp; omega) | omega)]; simp [go_sem, World.cell?_alloc_past, *]
  have c3_6 : w3.cell? ⟨w2.heap.size, 1, none⟩ = some (.int .i64 y0) := by rw [(bcell hbw3).1 _ _ (by first | (simp; done) | (simp; omega) | omega)]; simp [go_sem, World.cell?_alloc_past, *]
  have hB3 : Below w.heap.size w w3 := (by (repeat (first | (with_reducible refine Below.drew ?_) | (with_reducible refine below_drewN ?_ _) | (with_reducible refine Below.alloc ?_ (by first | omega | (simp; done) | (simp; omega) | (simp at *; omega)) _) | (with_reducible refine Below.setCell ?_ (by first | omega | (simp; done) | (simp; omega) | (simp at *; omega)) _) | (with_reducible exact Below.refl _ _) | (with_reducible assumption) | (with_reducible refine Below.trans ?_ (Below.mono (by assumption) (by first | omega | (simp; done) | (simp; omega) | (simp at *; omega)))))))
  clear c2_0 c2_1 c2_2 c2_3 c2_4 o2_0 n2_0 t2_0_1 t2_0_2 t2_0_3 t2_0_4 t2_0_5 o2_1 n2_1 t2_1_1 t2_1_2 t2_1_3 t2_1_4 t2_1_5
  have o3_0 : w.heap.size < w3.heap.size := by omega
  have n3_0 : w3.heap.size ≠ w.heap.size := by omega
  have t3_0_1 : w.heap.size < w3.heap.size + 1 := by omega
  have t3_0_2 : w.heap.size < w3.heap.size + 1 + 1 := by omega
  have t3_0_3 : w.heap.size < w3.heap.size + 1 + 1 + 1 := by omega
  have t3_0_4 : w.heap.size < w3.heap.size + 1 + 1 + 1 + 1 := by omega
  have t3_0_5 : w.heap.size < w3.heap.size + 1 + 1 + 1 + 1 + 1 := by omega
  have o3_1 : w.heap.size + 1 < w3.heap.size := by omega
  have n3_1 : w3.heap.size ≠ w.heap.size + 1 := by omega
  have t3_1_1 : w.heap.size + 1 < w3.heap.size + 1 := by omega
  have t3_1_2 : w.heap.size + 1 < w3.heap.size + 1 + 1 := by omega
  have t3_1_3 : w.heap.size + 1 < w3.heap.size + 1 + 1 + 1 := by omega
  have t3_1_4 : w.heap.size + 1 < w3.heap.size + 1 + 1 + 1 + 1 := by omega
  have t3_1_5 : w.heap.size + 1 < w3.heap.size + 1 + 1 + 1 + 1 + 1 := by omega
  have o3_2 : w2.heap.size < w3.heap.size := by omega
  have n3_2 : w3.heap.size ≠ w2.heap.size := by omega
  have t3_2_1 : w2.heap.size < w3.heap.size + 1 := by omega
  have t3_2_2 : w2.heap.size < w3.heap.size + 1 + 1 := by omega
  have t3_2_3 : w2.heap.size < w3.heap.size + 1 + 1 + 1 := by omega
  have t3_2_4 : w2.heap.size < w3.heap.size + 1 + 1 + 1 + 1 := by omega
  have t3_2_5 : w2.heap.size < w3.heap.size + 1 + 1 + 1 + 1 + 1 := by omega
  have b3 : w.heap.size ≤ w3.heap.size := by omega
  clear hbw3
  go_wp2_with fail
  refine (HD2.out _).mono ?_
  rintro e w4 ⟨rfl, hbw4⟩
  have z4 := hbw4.size
  try simp at z4
  have c4_0 : w4.cell? ⟨w.heap.size, 0, none⟩ = some (.int .i64 s0) := by rw [(bcell hbw4).1 _ _ (by first | (simp; done) | (simp; omega) | omega)]; simp [go_sem, World.cell?_alloc_past, *]
  have c4_1 : w4.cell? ⟨w.heap.size, 1, none⟩ = some (.int .i64 s1) := by rw [(bcell hbw4).1 _ _ (by first | (simp; done) | (simp; omega) | omega)]; simp [go_sem, World.cell?_alloc_past, *]
  have c4_2 : w4.cell? ⟨w.heap.size + 1, 0, none⟩ = some (.int .i64 l0) := by rw [(bcell hbw4).1 _ _ (by first | (simp; done) | (simp; omega) | omega)]; simp [go_sem, World.cell?_alloc_past, *]
  have c4_3 : w4.cell? ⟨w.heap.size + 1, 1, none⟩ = some (.int .i64 l1) := by rw [(bcell hbw4).1 _ _ (by first | (simp; done) | (simp; omega) | omega)]; simp [go_sem, World.cell?_alloc_past, *]
  have c4_4 : w4.cell? ⟨w.heap.size + 1, 2, none⟩ = some (.int .i64 l2) := by rw [(bcell hbw4).1 _ _ (by first | (simp; done) | (simp; omega) | omega)]; simp [go_sem, World.cell?_alloc_past, *]
  have c4_5 : w4.cell? ⟨w2.heap.size, 0, none⟩ = some (.int .i64 x0) := by rw [(bcell hbw4).1 _ _ (by first | (simp; done) | (simp; omega) | omega)]; simp [go_sem, World.cell?_alloc_past, *]
  have c4_6 : w4.cell? ⟨w2.heap.size, 1, none⟩ = some (.int .i64 y0) := by rw [(bcell hbw4).1 _ _ (by first | (simp; done) | (simp; omega) | omega)]; simp [go_sem, World.cell?_alloc_past, *]
  have c4_7 : w4.cell? ⟨w3.heap.size, 0, none⟩ = some (.int .i64 x1) := by rw [(bcell hbw4).1 _ _ (by first | (simp; done) | (simp; omega) | omega)]; simp [go_sem, World.cell?_alloc_past, *]
  have c4_8 : w4.cell? ⟨w3.heap.size, 1, none⟩ = some (.int .i64 y1) := by rw [(bcell hbw4).1 _ _ (by first | (simp; done) | (simp; omega) | omega)]; simp [go_sem, World.cell?_alloc_past, *]
  have hB4 : Below w.heap.size w w4 := (by (repeat (first | (with_reducible refine Below.drew ?_) | (with_reducible refine below_drewN ?_ _) | (with_reducible refine Below.alloc ?_ (by first | omega | (simp; done) | (simp; omega) | (simp at *; omega)) _) | (with_reducible refine Below.setCell ?_ (by first | omega | (simp; done) | (simp; omega) | (simp at *; omega)) _) | (with_reducible exact Below.refl _ _) | (with_reducible assumption) | (with_reducible refine Below.trans ?_ (Below.mono (by assumption) (by first | omega | (simp; done) | (simp; omega) | (simp at *; omega)))))))
  clear c3_0 c3_1 c3_2 c3_3 c3_4 c3_5 c3_6 o3_0 n3_0 t3_0_1 t3_0_2 t3_0_3 t3_0_4 t3_0_5 o3_1 n3_1 t3_1_1 t3_1_2 t3_1_3 t3_1_4 t3_1_5 o3_2 n3_2 t3_2_1 t3_2_2 t3_2_3 t3_2_4 t3_2_5
  have o4_0 : w.heap.size < w4.heap.size := by omega
  have n4_0 : w4.heap.size ≠ w.heap.size := by omega
  have t4_0_1 : w.heap.size < w4.heap.size + 1 := by omega
  have t4_0_2 : w.heap.size < w4.heap.size + 1 + 1 := by omega
  have t4_0_3 : w.heap.size < w4.heap.size + 1 + 1 + 1 := by omega
  have t4_0_4 : w.heap.size < w4.heap.size + 1 + 1 + 1 + 1 := by omega
  have t4_0_5 : w.heap.size < w4.heap.size + 1 + 1 + 1 + 1 + 1 := by omega
  have o4_1 : w.heap.size + 1 < w4.heap.size := by omega
  have n4_1 : w4.heap.size ≠ w.heap.size + 1 := by omega
  have t4_1_1 : w.heap.size + 1 < w4.heap.size + 1 := by omega
  have t4_1_2 : w.heap.size + 1 < w4.heap.size + 1 + 1 := by omega
  have t4_1_3 : w.heap.size + 1 < w4.heap.size + 1 + 1 + 1 := by omega
  have t4_1_4 : w.heap.size + 1 < w4.heap.size + 1 + 1 + 1 + 1 := by omega
  have t4_1_5 : w.heap.size + 1 < w4.heap.size + 1 + 1 + 1 + 1 + 1 := by omega
  have o4_2 : w2.heap.size < w4.heap.size := by omega
  have n4_2 : w4.heap.size ≠ w2.heap.size := by omega
  have t4_2_1 : w2.heap.size < w4.heap.size + 1 := by omega
  have t4_2_2 : w2.heap.size < w4.heap.size + 1 + 1 := by omega
  have t4_2_3 : w2.heap.size < w4.heap.size + 1 + 1 + 1 := by omega
  have t4_2_4 : w2.heap.size < w4.heap.size + 1 + 1 + 1 + 1 := by omega
  have t4_2_5 : w2.heap.size < w4.heap.size + 1 + 1 + 1 + 1 + 1 := by omega
  have o4_3 : w3.heap.size < w4.heap.size := by omega
  have n4_3 : w4.heap.size ≠ w3.heap.size := by omega
  have t4_3_1 : w3.heap.size < w4.heap.size + 1 := by omega
  have t4_3_2 : w3.heap.size < w4.heap.size + 1 + 1 := by omega
  have t4_3_3 : w3.heap.size < w4.heap.size + 1 + 1 + 1 := by omega
  have t4_3_4 : w3.heap.size < w4.heap.size + 1 + 1 + 1 + 1 := by omega
  have t4_3_5 : w3.heap.size < w4.heap.size + 1 + 1 + 1 + 1 + 1 := by omega
  have b4 : w.heap.size ≤ w4.heap.size := by omega
  clear hbw4
  go_wp2_with (first | (go_at_call 18; ((with_reducible refine (HH.out _).mono ?_)); rintro e w' ⟨rfl, rfl⟩) | (go_at_call 18; ((with_reducible refine (HL0.out _).mono ?_)); rintro e w' ⟨rfl, rfl⟩) | (go_at_call 18; ((with_reducible refine (HL1.out _).mono ?_)); rintro e w' ⟨rfl, rfl⟩))
  go_ret
  exact ⟨by first | rfl | simp, (by (repeat (first | (with_reducible refine Below.drew ?_) | (with_reducible refine below_drewN ?_ _) | (with_reducible refine Below.alloc ?_ (by first | omega | (simp; done) | (simp; omega) | (simp at *; omega)) _) | (with_reducible refine Below.setCell ?_ (by first | omega | (simp; done) | (simp; omega) | (simp at *; omega)) _) | (with_reducible exact Below.refl _ _) | (with_reducible assumption) | (with_reducible refine Below.trans ?_ (Below.mono (by assumption) (by first | omega | (simp; done) | (simp; omega) | (simp at *; omega)))))))⟩
set_option maxRecDepth 100000 in
set_option maxHeartbeats 2000000 in
theorem tissueProducts_l2 (s0 s1 h l0 l1 l2 : Int) (w : World) (hs0 : inB s0 0 500000 = true) (hs1 : inB s1 0 500000 = true) (hh : inB h 1 100000 = true) (hl0 : inB l0 0 24 = true) (hl1 : inB l1 0 24 = true) (hl2 : inB l2 0 24 = false) :
    Calls Try.prog 4 #[.agg #[.int .i64 s0, .int .i64 s1], .int .i64 h, .agg #[.int .i64 l0, .int .i64 l1, .int .i64 l2]] w fun e w' => e = .returned (.bool true) ∧ Below w.heap.size w w' := by
  have HS0 := Lib.hid (fun w => bWp_is s0 0 500000 true w hs0)
  have HS1 := Lib.hid (fun w => bWp_is s1 0 500000 true w hs1)
  obtain ⟨i0, i1⟩ := inB_iff.1 hs0
  obtain ⟨j0, j1⟩ := inB_iff.1 hs1
  have esum : IntKind.i64.wrap (s0 + s1) = s0 + s1 := IntWalk.i64_in _ (by omega)
  obtain ⟨c0, hc0⟩ : ∃ z, Hid (dcE s0 h l0 = z) := ⟨_, rfl⟩
  obtain ⟨c1, hc1⟩ : ∃ z, Hid (dcE s1 h l1 = z) := ⟨_, rfl⟩
  obtain ⟨c2, hc2⟩ : ∃ z, Hid (dcE (s0 + s1) h l2 = z) := ⟨_, rfl⟩
  obtain ⟨x0, hx0⟩ : ∃ z, Hid (dcL s0 h l0 = z) := ⟨_, rfl⟩
  obtain ⟨y0, hy0⟩ : ∃ z, Hid (dcH s0 h l0 = z) := ⟨_, rfl⟩
  obtain ⟨x1, hx1⟩ : ∃ z, Hid (dcL s1 h l1 = z) := ⟨_, rfl⟩
  obtain ⟨y1, hy1⟩ : ∃ z, Hid (dcH s1 h l1 = z) := ⟨_, rfl⟩
  obtain ⟨x2, hx2⟩ : ∃ z, Hid (dcL (s0 + s1) h l2 = z) := ⟨_, rfl⟩
  obtain ⟨y2, hy2⟩ : ∃ z, Hid (dcH (s0 + s1) h l2 = z) := ⟨_, rfl⟩
  have HD0 := Lib.hid (fun w => Decay_x s0 h l0 x0 y0 c0 w hx0.out hy0.out hc0.out)
  have HD1 := Lib.hid (fun w => Decay_x s1 h l1 x1 y1 c1 w hx1.out hy1.out hc1.out)
  have HD2 := Lib.hid (fun w => Decay_x (s0 + s1) h l2 x2 y2 c2 w hx2.out hy2.out hc2.out)
  have HH := Lib.hid (fun w => bWp_is h 1 100000 true w hh)
  have HL0 := Lib.hid (fun w => bWp_is l0 0 24 true w hl0)
  have HL1 := Lib.hid (fun w => bWp_is l1 0 24 true w hl1)
  have HL2 := Lib.hid (fun w => bWp_is l2 0 24 false w hl2)
  have e0 : c0 = 0 := by
    rcases dcE_02 s0 h l0 with ⟨q, _⟩ | ⟨q, q1 | q1 | q1⟩
    · rw [← hc0.out, q]
    · have := inB_not.1 q1; omega
    · rw [hh] at q1; cases q1
    · rw [hl0] at q1; cases q1
  have e1 : c1 = 0 := by
    rcases dcE_02 s1 h l1 with ⟨q, _⟩ | ⟨q, q1 | q1 | q1⟩
    · rw [← hc1.out, q]
    · have := inB_not.1 q1; omega
    · rw [hh] at q1; cases q1
    · rw [hl1] at q1; cases q1
  have e2 : c2 = 2 := by
    rcases dcE_02 (s0 + s1) h l2 with ⟨q, q1, q2, q3⟩ | ⟨q, _⟩
    · rw [hl2] at q3; cases q3
    · rw [← hc2.out, q]
  clear hh hl0 hl1 hl2 hc0 hc1 hc2
  clear hs0 hs1 hx0 hy0 hx1 hy1 hx2 hy2 i0 i1 j0 j1
  subst e0 e1 e2
  go_enter Try.func4, Try.ntmps4
  go_wp2_with fail
  refine (tawake_any _).mono ?_
  rintro e w1 ⟨rfl, hbw1⟩
  have z1 := hbw1.size
  try simp at z1
  have c1_0 : w1.cell? ⟨w.heap.size, 0, none⟩ = some (.int .i64 s0) := by rw [(bcell hbw1).1 _ _ (by first | (simp; done) | (simp; omega) | omega)]; simp [go_sem, World.cell?_alloc_past, *]
  have c1_1 : w1.cell? ⟨w.heap.size, 1, none⟩ = some (.int .i64 s1) := by rw [(bcell hbw1).1 _ _ (by first | (simp; done) | (simp; omega) | omega)]; simp [go_sem, World.cell?_alloc_past, *]
  have c1_2 : w1.cell? ⟨w.heap.size + 1, 0, none⟩ = some (.int .i64 l0) := by rw [(bcell hbw1).1 _ _ (by first | (simp; done) | (simp; omega) | omega)]; simp [go_sem, World.cell?_alloc_past, *]
  have c1_3 : w1.cell? ⟨w.heap.size + 1, 1, none⟩ = some (.int .i64 l1) := by rw [(bcell hbw1).1 _ _ (by first | (simp; done) | (simp; omega) | omega)]; simp [go_sem, World.cell?_alloc_past, *]
  have c1_4 : w1.cell? ⟨w.heap.size + 1, 2, none⟩ = some (.int .i64 l2) := by rw [(bcell hbw1).1 _ _ (by first | (simp; done) | (simp; omega) | omega)]; simp [go_sem, World.cell?_alloc_past, *]
  have hB1 : Below w.heap.size w w1 := (by (repeat (first | (with_reducible refine Below.drew ?_) | (with_reducible refine below_drewN ?_ _) | (with_reducible refine Below.alloc ?_ (by first | omega | (simp; done) | (simp; omega) | (simp at *; omega)) _) | (with_reducible refine Below.setCell ?_ (by first | omega | (simp; done) | (simp; omega) | (simp at *; omega)) _) | (with_reducible exact Below.refl _ _) | (with_reducible assumption) | (with_reducible refine Below.trans ?_ (Below.mono (by assumption) (by first | omega | (simp; done) | (simp; omega) | (simp at *; omega)))))))
  have o1_0 : w.heap.size < w1.heap.size := by omega
  have n1_0 : w1.heap.size ≠ w.heap.size := by omega
  have t1_0_1 : w.heap.size < w1.heap.size + 1 := by omega
  have t1_0_2 : w.heap.size < w1.heap.size + 1 + 1 := by omega
  have t1_0_3 : w.heap.size < w1.heap.size + 1 + 1 + 1 := by omega
  have t1_0_4 : w.heap.size < w1.heap.size + 1 + 1 + 1 + 1 := by omega
  have t1_0_5 : w.heap.size < w1.heap.size + 1 + 1 + 1 + 1 + 1 := by omega
  have o1_1 : w.heap.size + 1 < w1.heap.size := by omega
  have n1_1 : w1.heap.size ≠ w.heap.size + 1 := by omega
  have t1_1_1 : w.heap.size + 1 < w1.heap.size + 1 := by omega
  have t1_1_2 : w.heap.size + 1 < w1.heap.size + 1 + 1 := by omega
  have t1_1_3 : w.heap.size + 1 < w1.heap.size + 1 + 1 + 1 := by omega
  have t1_1_4 : w.heap.size + 1 < w1.heap.size + 1 + 1 + 1 + 1 := by omega
  have t1_1_5 : w.heap.size + 1 < w1.heap.size + 1 + 1 + 1 + 1 + 1 := by omega
  have b1 : w.heap.size ≤ w1.heap.size := by omega
  clear hbw1
  go_wp2_with (first | (go_at_call 18; ((with_reducible refine (HS0.out _).mono ?_)); rintro e w' ⟨rfl, rfl⟩) | (go_at_call 18; ((with_reducible refine (HS1.out _).mono ?_)); rintro e w' ⟨rfl, rfl⟩))
  refine (HD0.out _).mono ?_
  rintro e w2 ⟨rfl, hbw2⟩
  have z2 := hbw2.size
  try simp at z2
  have c2_0 : w2.cell? ⟨w.heap.size, 0, none⟩ = some (.int .i64 s0) := by rw [(bcell hbw2).1 _ _ (by first | (simp; done) | (simp; omega) | omega)]; simp [go_sem, World.cell?_alloc_past, *]
  have c2_1 : w2.cell? ⟨w.heap.size, 1, none⟩ = some (.int .i64 s1) := by rw [(bcell hbw2).1 _ _ (by first | (simp; done) | (simp; omega) | omega)]; simp [go_sem, World.cell?_alloc_past, *]
  have c2_2 : w2.cell? ⟨w.heap.size + 1, 0, none⟩ = some (.int .i64 l0) := by rw [(bcell hbw2).1 _ _ (by first | (simp; done) | (simp; omega) | omega)]; simp [go_sem, World.cell?_alloc_past, *]
  have c2_3 : w2.cell? ⟨w.heap.size + 1, 1, none⟩ = some (.int .i64 l1) := by rw [(bcell hbw2).1 _ _ (by first | (simp; done) | (simp; omega) | omega)]; simp [go_sem, World.cell?_alloc_past, *]
  have c2_4 : w2.cell? ⟨w.heap.size + 1, 2, none⟩ = some (.int .i64 l2) := by rw [(bcell hbw2).1 _ _ (by first | (simp; done) | (simp; omega) | omega)]; simp [go_sem, World.cell?_alloc_past, *]
  have hB2 : Below w.heap.size w w2 := (by (repeat (first | (with_reducible refine Below.drew ?_) | (with_reducible refine below_drewN ?_ _) | (with_reducible refine Below.alloc ?_ (by first | omega | (simp; done) | (simp; omega) | (simp at *; omega)) _) | (with_reducible refine Below.setCell ?_ (by first | omega | (simp; done) | (simp; omega) | (simp at *; omega)) _) | (with_reducible exact Below.refl _ _) | (with_reducible assumption) | (with_reducible refine Below.trans ?_ (Below.mono (by assumption) (by first | omega | (simp; done) | (simp; omega) | (simp at *; omega)))))))
  clear c1_0 c1_1 c1_2 c1_3 c1_4 o1_0 n1_0 t1_0_1 t1_0_2 t1_0_3 t1_0_4 t1_0_5 o1_1 n1_1 t1_1_1 t1_1_2 t1_1_3 t1_1_4 t1_1_5
  have o2_0 : w.heap.size < w2.heap.size := by omega
  have n2_0 : w2.heap.size ≠ w.heap.size := by omega
  have t2_0_1 : w.heap.size < w2.heap.size + 1 := by omega
  have t2_0_2 : w.heap.size < w2.heap.size + 1 + 1 := by omega
  have t2_0_3 : w.heap.size < w2.heap.size + 1 + 1 + 1 := by omega
  have t2_0_4 : w.heap.size < w2.heap.size + 1 + 1 + 1 + 1 := by omega
  have t2_0_5 : w.heap.size < w2.heap.size + 1 + 1 + 1 + 1 + 1 := by omega
  have o2_1 : w.heap.size + 1 < w2.heap.size := by omega
  have n2_1 : w2.heap.size ≠ w.heap.size + 1 := by omega
  have t2_1_1 : w.heap.size + 1 < w2.heap.size + 1 := by omega
  have t2_1_2 : w.heap.size + 1 < w2.heap.size + 1 + 1 := by omega
  have t2_1_3 : w.heap.size + 1 < w2.heap.size + 1 + 1 + 1 := by omega
  have t2_1_4 : w.heap.size + 1 < w2.heap.size + 1 + 1 + 1 + 1 := by omega
  have t2_1_5 : w.heap.size + 1 < w2.heap.size + 1 + 1 + 1 + 1 + 1 := by omega
  have b2 : w.heap.size ≤ w2.heap.size := by omega
  clear hbw2
  go_wp2_with fail
  refine (HD1.out _).mono ?_
  rintro e w3 ⟨rfl, hbw3⟩
  have z3 := hbw3.size
  try simp at z3
  have c3_0 : w3.cell? ⟨w.heap.size, 0, none⟩ = some (.int .i64 s0) := by rw [(bcell hbw3).1 _ _ (by first | (simp; done) | (simp; omega) | omega)]; simp [go_sem, World.cell?_alloc_past, *]
  have c3_1 : w3.cell? ⟨w.heap.size, 1, none⟩ = some (.int .i64 s1) := by rw [(bcell hbw3).1 _ _ (by first | (simp; done) | (simp; omega) | omega)]; simp [go_sem, World.cell?_alloc_past, *]
  have c3_2 : w3.cell? ⟨w.heap.size + 1, 0, none⟩ = some (.int .i64 l0) := by rw [(bcell hbw3).1 _ _ (by first | (simp; done) | (simp; omega) | omega)]; simp [go_sem, World.cell?_alloc_past, *]
  have c3_3 : w3.cell? ⟨w.heap.size + 1, 1, none⟩ = some (.int .i64 l1) := by rw [(bcell hbw3).1 _ _ (by first | (simp; done) | (simp; omega) | omega)]; simp [go_sem, World.cell?_alloc_past, *]
  have c3_4 : w3.cell? ⟨w.heap.size + 1, 2, none⟩ = some (.int .i64 l2) := by rw [(bcell hbw3).1 _ _ (by first | (simp; done) | (simp; omega) | omega)]; simp [go_sem, World.cell?_alloc_past, *]
  have c3_5 : w3.cell? ⟨w2.heap.size, 0, none⟩ = some (.int .i64 x0) := by rw [(bcell hbw3).1 _ _ (by first | (simp; done) | (simp; omega) | omega)]; simp [go_sem, World.cell?_alloc_past, *]
  have c3_6 : w3.cell? ⟨w2.heap.size, 1, none⟩ = some (.int .i64 y0) := by rw [(bcell hbw3).1 _ _ (by first | (simp; done) | (simp; omega) | omega)]; simp [go_sem, World.cell?_alloc_past, *]
  have hB3 : Below w.heap.size w w3 := (by (repeat (first | (with_reducible refine Below.drew ?_) | (with_reducible refine below_drewN ?_ _) | (with_reducible refine Below.alloc ?_ (by first | omega | (simp; done) | (simp; omega) | (simp at *; omega)) _) | (with_reducible refine Below.setCell ?_ (by first | omega | (simp; done) | (simp; omega) | (simp at *; omega)) _) | (with_reducible exact Below.refl _ _) | (with_reducible assumption) | (with_reducible refine Below.trans ?_ (Below.mono (by assumption) (by first | omega | (simp; done) | (simp; omega) | (simp at *; omega)))))))
  clear c2_0 c2_1 c2_2 c2_3 c2_4 o2_0 n2_0 t2_0_1 t2_0_2 t2_0_3 t2_0_4 t2_0_5 o2_1 n2_1 t2_1_1 t2_1_2 t2_1_3 t2_1_4 t2_1_5
  have o3_0 : w.heap.size < w3.heap.size := by omega
  have n3_0 : w3.heap.size ≠ w.heap.size := by omega
  have t3_0_1 : w.heap.size < w3.heap.size + 1 := by omega
  have t3_0_2 : w.heap.size < w3.heap.size + 1 + 1 := by omega
  have t3_0_3 : w.heap.size < w3.heap.size + 1 + 1 + 1 := by omega
  have t3_0_4 : w.heap.size < w3.heap.size + 1 + 1 + 1 + 1 := by omega
  have t3_0_5 : w.heap.size < w3.heap.size + 1 + 1 + 1 + 1 + 1 := by omega
  have o3_1 : w.heap.size + 1 < w3.heap.size := by omega
  have n3_1 : w3.heap.size ≠ w.heap.size + 1 := by omega
  have t3_1_1 : w.heap.size + 1 < w3.heap.size + 1 := by omega
  have t3_1_2 : w.heap.size + 1 < w3.heap.size + 1 + 1 := by omega
  have t3_1_3 : w.heap.size + 1 < w3.heap.size + 1 + 1 + 1 := by omega
  have t3_1_4 : w.heap.size + 1 < w3.heap.size + 1 + 1 + 1 + 1 := by omega
  have t3_1_5 : w.heap.size + 1 < w3.heap.size + 1 + 1 + 1 + 1 + 1 := by omega
  have o3_2 : w2.heap.size < w3.heap.size := by omega
  have n3_2 : w3.heap.size ≠ w2.heap.size := by omega
  have t3_2_1 : w2.heap.size < w3.heap.size + 1 := by omega
  have t3_2_2 : w2.heap.size < w3.heap.size + 1 + 1 := by omega
  have t3_2_3 : w2.heap.size < w3.heap.size + 1 + 1 + 1 := by omega
  have t3_2_4 : w2.heap.size < w3.heap.size + 1 + 1 + 1 + 1 := by omega
  have t3_2_5 : w2.heap.size < w3.heap.size + 1 + 1 + 1 + 1 + 1 := by omega
  have b3 : w.heap.size ≤ w3.heap.size := by omega
  clear hbw3
  go_wp2_with fail
  refine (HD2.out _).mono ?_
  rintro e w4 ⟨rfl, hbw4⟩
  have z4 := hbw4.size
  try simp at z4
  have c4_0 : w4.cell? ⟨w.heap.size, 0, none⟩ = some (.int .i64 s0) := by rw [(bcell hbw4).1 _ _ (by first | (simp; done) | (simp; omega) | omega)]; simp [go_sem, World.cell?_alloc_past, *]
  have c4_1 : w4.cell? ⟨w.heap.size, 1, none⟩ = some (.int .i64 s1) := by rw [(bcell hbw4).1 _ _ (by first | (simp; done) | (simp; omega) | omega)]; simp [go_sem, World.cell?_alloc_past, *]
  have c4_2 : w4.cell? ⟨w.heap.size + 1, 0, none⟩ = some (.int .i64 l0) := by rw [(bcell hbw4).1 _ _ (by first | (simp; done) | (simp; omega) | omega)]; simp [go_sem, World.cell?_alloc_past, *]
  have c4_3 : w4.cell? ⟨w.heap.size + 1, 1, none⟩ = some (.int .i64 l1) := by rw [(bcell hbw4).1 _ _ (by first | (simp; done) | (simp; omega) | omega)]; simp [go_sem, World.cell?_alloc_past, *]
  have c4_4 : w4.cell? ⟨w.heap.size + 1, 2, none⟩ = some (.int .i64 l2) := by rw [(bcell hbw4).1 _ _ (by first | (simp; done) | (simp; omega) | omega)]; simp [go_sem, World.cell?_alloc_past, *]
  have c4_5 : w4.cell? ⟨w2.heap.size, 0, none⟩ = some (.int .i64 x0) := by rw [(bcell hbw4).1 _ _ (by first | (simp; done) | (simp; omega) | omega)]; simp [go_sem, World.cell?_alloc_past, *]
  have c4_6 : w4.cell? ⟨w2.heap.size, 1, none⟩ = some (.int .i64 y0) := by rw [(bcell hbw4).1 _ _ (by first | (simp; done) | (simp; omega) | omega)]; simp [go_sem, World.cell?_alloc_past, *]
  have c4_7 : w4.cell? ⟨w3.heap.size, 0, none⟩ = some (.int .i64 x1) := by rw [(bcell hbw4).1 _ _ (by first | (simp; done) | (simp; omega) | omega)]; simp [go_sem, World.cell?_alloc_past, *]
  have c4_8 : w4.cell? ⟨w3.heap.size, 1, none⟩ = some (.int .i64 y1) := by rw [(bcell hbw4).1 _ _ (by first | (simp; done) | (simp; omega) | omega)]; simp [go_sem, World.cell?_alloc_past, *]
  have hB4 : Below w.heap.size w w4 := (by (repeat (first | (with_reducible refine Below.drew ?_) | (with_reducible refine below_drewN ?_ _) | (with_reducible refine Below.alloc ?_ (by first | omega | (simp; done) | (simp; omega) | (simp at *; omega)) _) | (with_reducible refine Below.setCell ?_ (by first | omega | (simp; done) | (simp; omega) | (simp at *; omega)) _) | (with_reducible exact Below.refl _ _) | (with_reducible assumption) | (with_reducible refine Below.trans ?_ (Below.mono (by assumption) (by first | omega | (simp; done) | (simp; omega) | (simp at *; omega)))))))
  clear c3_0 c3_1 c3_2 c3_3 c3_4 c3_5 c3_6 o3_0 n3_0 t3_0_1 t3_0_2 t3_0_3 t3_0_4 t3_0_5 o3_1 n3_1 t3_1_1 t3_1_2 t3_1_3 t3_1_4 t3_1_5 o3_2 n3_2 t3_2_1 t3_2_2 t3_2_3 t3_2_4 t3_2_5
  have o4_0 : w.heap.size < w4.heap.size := by omega
  have n4_0 : w4.heap.size ≠ w.heap.size := by omega
  have t4_0_1 : w.heap.size < w4.heap.size + 1 := by omega
  have t4_0_2 : w.heap.size < w4.heap.size + 1 + 1 := by omega
  have t4_0_3 : w.heap.size < w4.heap.size + 1 + 1 + 1 := by omega
  have t4_0_4 : w.heap.size < w4.heap.size + 1 + 1 + 1 + 1 := by omega
  have t4_0_5 : w.heap.size < w4.heap.size + 1 + 1 + 1 + 1 + 1 := by omega
  have o4_1 : w.heap.size + 1 < w4.heap.size := by omega
  have n4_1 : w4.heap.size ≠ w.heap.size + 1 := by omega
  have t4_1_1 : w.heap.size + 1 < w4.heap.size + 1 := by omega
  have t4_1_2 : w.heap.size + 1 < w4.heap.size + 1 + 1 := by omega
  have t4_1_3 : w.heap.size + 1 < w4.heap.size + 1 + 1 + 1 := by omega
  have t4_1_4 : w.heap.size + 1 < w4.heap.size + 1 + 1 + 1 + 1 := by omega
  have t4_1_5 : w.heap.size + 1 < w4.heap.size + 1 + 1 + 1 + 1 + 1 := by omega
  have o4_2 : w2.heap.size < w4.heap.size := by omega
  have n4_2 : w4.heap.size ≠ w2.heap.size := by omega
  have t4_2_1 : w2.heap.size < w4.heap.size + 1 := by omega
  have t4_2_2 : w2.heap.size < w4.heap.size + 1 + 1 := by omega
  have t4_2_3 : w2.heap.size < w4.heap.size + 1 + 1 + 1 := by omega
  have t4_2_4 : w2.heap.size < w4.heap.size + 1 + 1 + 1 + 1 := by omega
  have t4_2_5 : w2.heap.size < w4.heap.size + 1 + 1 + 1 + 1 + 1 := by omega
  have o4_3 : w3.heap.size < w4.heap.size := by omega
  have n4_3 : w4.heap.size ≠ w3.heap.size := by omega
  have t4_3_1 : w3.heap.size < w4.heap.size + 1 := by omega
  have t4_3_2 : w3.heap.size < w4.heap.size + 1 + 1 := by omega
  have t4_3_3 : w3.heap.size < w4.heap.size + 1 + 1 + 1 := by omega
  have t4_3_4 : w3.heap.size < w4.heap.size + 1 + 1 + 1 + 1 := by omega
  have t4_3_5 : w3.heap.size < w4.heap.size + 1 + 1 + 1 + 1 + 1 := by omega
  have b4 : w.heap.size ≤ w4.heap.size := by omega
  clear hbw4
  go_wp2_with (first | (go_at_call 18; ((with_reducible refine (HH.out _).mono ?_)); rintro e w' ⟨rfl, rfl⟩) | (go_at_call 18; ((with_reducible refine (HL0.out _).mono ?_)); rintro e w' ⟨rfl, rfl⟩) | (go_at_call 18; ((with_reducible refine (HL1.out _).mono ?_)); rintro e w' ⟨rfl, rfl⟩) | (go_at_call 18; ((with_reducible refine (HL2.out _).mono ?_)); rintro e w' ⟨rfl, rfl⟩))
  go_ret
  exact ⟨by first | rfl | simp, (by (repeat (first | (with_reducible refine Below.drew ?_) | (with_reducible refine below_drewN ?_ _) | (with_reducible refine Below.alloc ?_ (by first | omega | (simp; done) | (simp; omega) | (simp at *; omega)) _) | (with_reducible refine Below.setCell ?_ (by first | omega | (simp; done) | (simp; omega) | (simp at *; omega)) _) | (with_reducible exact Below.refl _ _) | (with_reducible assumption) | (with_reducible refine Below.trans ?_ (Below.mono (by assumption) (by first | omega | (simp; done) | (simp; omega) | (simp at *; omega)))))))⟩
set_option maxRecDepth 100000 in
set_option maxHeartbeats 2000000 in
theorem tissueProducts_ok (s0 s1 h l0 l1 l2 : Int) (w : World) (hs0 : inB s0 0 500000 = true) (hs1 : inB s1 0 500000 = true) (hh : inB h 1 100000 = true) (hl0 : inB l0 0 24 = true) (hl1 : inB l1 0 24 = true) (hl2 : inB l2 0 24 = true) :
    Calls Try.prog 4 #[.agg #[.int .i64 s0, .int .i64 s1], .int .i64 h, .agg #[.int .i64 l0, .int .i64 l1, .int .i64 l2]] w fun e w' => e = .returned (.bool true) ∧ Below w.heap.size w w' := by
  have HS0 := Lib.hid (fun w => bWp_is s0 0 500000 true w hs0)
  have HS1 := Lib.hid (fun w => bWp_is s1 0 500000 true w hs1)
  obtain ⟨i0, i1⟩ := inB_iff.1 hs0
  obtain ⟨j0, j1⟩ := inB_iff.1 hs1
  have esum : IntKind.i64.wrap (s0 + s1) = s0 + s1 := IntWalk.i64_in _ (by omega)
  obtain ⟨c0, hc0⟩ : ∃ z, Hid (dcE s0 h l0 = z) := ⟨_, rfl⟩
  obtain ⟨c1, hc1⟩ : ∃ z, Hid (dcE s1 h l1 = z) := ⟨_, rfl⟩
  obtain ⟨c2, hc2⟩ : ∃ z, Hid (dcE (s0 + s1) h l2 = z) := ⟨_, rfl⟩
  obtain ⟨x0, hx0⟩ : ∃ z, Hid (dcL s0 h l0 = z) := ⟨_, rfl⟩
  obtain ⟨y0, hy0⟩ : ∃ z, Hid (dcH s0 h l0 = z) := ⟨_, rfl⟩
  obtain ⟨x1, hx1⟩ : ∃ z, Hid (dcL s1 h l1 = z) := ⟨_, rfl⟩
  obtain ⟨y1, hy1⟩ : ∃ z, Hid (dcH s1 h l1 = z) := ⟨_, rfl⟩
  obtain ⟨x2, hx2⟩ : ∃ z, Hid (dcL (s0 + s1) h l2 = z) := ⟨_, rfl⟩
  obtain ⟨y2, hy2⟩ : ∃ z, Hid (dcH (s0 + s1) h l2 = z) := ⟨_, rfl⟩
  have HD0 := Lib.hid (fun w => Decay_x s0 h l0 x0 y0 c0 w hx0.out hy0.out hc0.out)
  have HD1 := Lib.hid (fun w => Decay_x s1 h l1 x1 y1 c1 w hx1.out hy1.out hc1.out)
  have HD2 := Lib.hid (fun w => Decay_x (s0 + s1) h l2 x2 y2 c2 w hx2.out hy2.out hc2.out)
  have e0 : c0 = 0 := by
    rcases dcE_02 s0 h l0 with ⟨q, _⟩ | ⟨q, q1 | q1 | q1⟩
    · rw [← hc0.out, q]
    · have := inB_not.1 q1; omega
    · rw [hh] at q1; cases q1
    · rw [hl0] at q1; cases q1
  have e1 : c1 = 0 := by
    rcases dcE_02 s1 h l1 with ⟨q, _⟩ | ⟨q, q1 | q1 | q1⟩
    · rw [← hc1.out, q]
    · have := inB_not.1 q1; omega
    · rw [hh] at q1; cases q1
    · rw [hl1] at q1; cases q1
  have e2 : c2 = 0 := by
    rcases dcE_02 (s0 + s1) h l2 with ⟨q, _⟩ | ⟨q, q1 | q1 | q1⟩
    · rw [← hc2.out, q]
    · have := inB_not.1 q1; omega
    · rw [hh] at q1; cases q1
    · rw [hl2] at q1; cases q1
  obtain ⟨h0, h1⟩ := inB_iff.1 hh
  obtain ⟨p0, p1⟩ := inB_iff.1 hl0
  obtain ⟨q0, q1⟩ := inB_iff.1 hl1
  obtain ⟨r0, r1⟩ := inB_iff.1 hl2
  have hM : (x0 * x1 ≤ y2 * 1000000000 ∧ x2 * 1000000000 ≤ y0 * y1 ∧ x2 ≤ y0 ∧ x2 ≤ y1) ∧ x0 ≤ y0 ∧ x1 ≤ y1 ∧ x2 ≤ y2 ∧ (0 ≤ x0 ∧ x0 ≤ 1000000000 ∧ 0 ≤ y0 ∧ y0 ≤ 1000000000) ∧ (0 ≤ x1 ∧ x1 ≤ 1000000000 ∧ 0 ≤ y1 ∧ y1 ≤ 1000000000) ∧ (0 ≤ x2 ∧ x2 ≤ 1000000000 ∧ 0 ≤ y2 ∧ y2 ≤ 1000000000) := by
    rw [← hx0.out, ← hy0.out, ← hx1.out, ← hy1.out, ← hx2.out, ← hy2.out]
    have z0 : dcE s0 h l0 = 0 := by rw [hc0.out]; exact e0
    have z1 : dcE s1 h l1 = 0 := by rw [hc1.out]; exact e1
    have z2 : dcE (s0 + s1) h l2 = 0 := by rw [hc2.out]; exact e2
    unfold dcL dcH
    rw [if_pos z0, if_pos z0, if_pos z1, if_pos z1, if_pos z2, if_pos z2]
    obtain ⟨a, rfl⟩ : ∃ n : Nat, s0 = n := ⟨s0.toNat, by omega⟩
    obtain ⟨b, rfl⟩ : ∃ n : Nat, s1 = n := ⟨s1.toNat, by omega⟩
    obtain ⟨c, rfl⟩ : ∃ n : Nat, h = n := ⟨h.toNat, by omega⟩
    have := dec_products a b c l0.toNat l1.toNat l2.toNat (by omega)
    rw [show ((a + b : Nat) : Int) = (a : Int) + b by omega] at this
    have t0 := dec_le a c l0.toNat (by omega)
    have t1 := dec_le b c l1.toNat (by omega)
    have t2 := dec_le (a + b) c l2.toNat (by omega)
    rw [show ((a + b : Nat) : Int) = (a : Int) + b by omega] at t2
    exact ⟨this, t0, t1, t2, dec_bd (by omega) _, dec_bd (by omega) _, dec_bd (by omega) _⟩
  obtain ⟨⟨g1, g2, g3, g4⟩, g5, g6, g7, ⟨u1, u2, u3, u4⟩, ⟨v1, v2, v3, v4⟩, ⟨t1, t2, t3, t4⟩⟩ := hM
  have HWa := Lib.hid (fun w => bWp_is x0 0 y0 true w (inB_true u1 g5))
  have HWb := Lib.hid (fun w => bWp_is x1 0 y1 true w (inB_true v1 g6))
  have HWc := Lib.hid (fun w => bWp_is x2 0 y2 true w (inB_true t1 g7))
  have k1 : x0 * x1 ≤ 1000000000000000000 ∧ 0 ≤ x0 * x1 := ⟨(mul_bd u1 u2 v1 v2).2, (mul_bd u1 u2 v1 v2).1⟩
  have k2 : y0 * y1 ≤ 1000000000000000000 ∧ 0 ≤ y0 * y1 := ⟨(mul_bd u3 u4 v3 v4).2, (mul_bd u3 u4 v3 v4).1⟩
  obtain ⟨m1, hm1⟩ : ∃ m, Hid (x0 * x1 = m) := ⟨_, rfl⟩
  obtain ⟨m2, hm2⟩ : ∃ m, Hid (y0 * y1 = m) := ⟨_, rfl⟩
  rw [hm1.out] at k1 g1
  rw [hm2.out] at k2 g2
  have f1 : x0 * x1 = m1 := hm1.out
  have f2 : y0 * y1 = m2 := hm2.out
  have f3 : IntKind.i64.wrap m1 = m1 := IntWalk.i64_in _ (by omega)
  have f4 : IntKind.i64.wrap m2 = m2 := IntWalk.i64_in _ (by omega)
  have f5 : IntKind.i64.wrap (y2 * 1000000000) = y2 * 1000000000 := IntWalk.i64_in _ (by omega)
  have f6 : IntKind.i64.wrap (x2 * 1000000000) = x2 * 1000000000 := IntWalk.i64_in _ (by omega)
  have n1 : ¬ 1000000000 < y0 := by omega
  have n2 : ¬ 1000000000 < y1 := by omega
  have n3 : ¬ 1000000000 < y2 := by omega
  clear g5 g6 g7 u1 u2 u3 u4 v1 v2 v3 v4 t1 t2 t3 t4 hm1 hm2 k1 k2 h0 h1 p0 p1 q0 q1 r0 r1
  clear hh hl0 hl1 hl2 hc0 hc1 hc2
  clear hs0 hs1 hx0 hy0 hx1 hy1 hx2 hy2 i0 i1 j0 j1
  subst e0 e1 e2
  go_enter Try.func4, Try.ntmps4
  go_wp2_with fail
  refine (tawake_any _).mono ?_
  rintro e w1 ⟨rfl, hbw1⟩
  have z1 := hbw1.size
  try simp at z1
  have c1_0 : w1.cell? ⟨w.heap.size, 0, none⟩ = some (.int .i64 s0) := by rw [(bcell hbw1).1 _ _ (by first | (simp; done) | (simp; omega) | omega)]; simp [go_sem, World.cell?_alloc_past, *]
  have c1_1 : w1.cell? ⟨w.heap.size, 1, none⟩ = some (.int .i64 s1) := by rw [(bcell hbw1).1 _ _ (by first | (simp; done) | (simp; omega) | omega)]; simp [go_sem, World.cell?_alloc_past, *]
  have c1_2 : w1.cell? ⟨w.heap.size + 1, 0, none⟩ = some (.int .i64 l0) := by rw [(bcell hbw1).1 _ _ (by first | (simp; done) | (simp; omega) | omega)]; simp [go_sem, World.cell?_alloc_past, *]
  have c1_3 : w1.cell? ⟨w.heap.size + 1, 1, none⟩ = some (.int .i64 l1) := by rw [(bcell hbw1).1 _ _ (by first | (simp; done) | (simp; omega) | omega)]; simp [go_sem, World.cell?_alloc_past, *]
  have c1_4 : w1.cell? ⟨w.heap.size + 1, 2, none⟩ = some (.int .i64 l2) := by rw [(bcell hbw1).1 _ _ (by first | (simp; done) | (simp; omega) | omega)]; simp [go_sem, World.cell?_alloc_past, *]
  have hB1 : Below w.heap.size w w1 := (by (repeat (first | (with_reducible refine Below.drew ?_) | (with_reducible refine below_drewN ?_ _) | (with_reducible refine Below.alloc ?_ (by first | omega | (simp; done) | (simp; omega) | (simp at *; omega)) _) | (with_reducible refine Below.setCell ?_ (by first | omega | (simp; done) | (simp; omega) | (simp at *; omega)) _) | (with_reducible exact Below.refl _ _) | (with_reducible assumption) | (with_reducible refine Below.trans ?_ (Below.mono (by assumption) (by first | omega | (simp; done) | (simp; omega) | (simp at *; omega)))))))
  have o1_0 : w.heap.size < w1.heap.size := by omega
  have n1_0 : w1.heap.size ≠ w.heap.size := by omega
  have t1_0_1 : w.heap.size < w1.heap.size + 1 := by omega
  have t1_0_2 : w.heap.size < w1.heap.size + 1 + 1 := by omega
  have t1_0_3 : w.heap.size < w1.heap.size + 1 + 1 + 1 := by omega
  have t1_0_4 : w.heap.size < w1.heap.size + 1 + 1 + 1 + 1 := by omega
  have t1_0_5 : w.heap.size < w1.heap.size + 1 + 1 + 1 + 1 + 1 := by omega
  have o1_1 : w.heap.size + 1 < w1.heap.size := by omega
  have n1_1 : w1.heap.size ≠ w.heap.size + 1 := by omega
  have t1_1_1 : w.heap.size + 1 < w1.heap.size + 1 := by omega
  have t1_1_2 : w.heap.size + 1 < w1.heap.size + 1 + 1 := by omega
  have t1_1_3 : w.heap.size + 1 < w1.heap.size + 1 + 1 + 1 := by omega
  have t1_1_4 : w.heap.size + 1 < w1.heap.size + 1 + 1 + 1 + 1 := by omega
  have t1_1_5 : w.heap.size + 1 < w1.heap.size + 1 + 1 + 1 + 1 + 1 := by omega
  have b1 : w.heap.size ≤ w1.heap.size := by omega
  clear hbw1
  go_wp2_with (first | (go_at_call 18; ((with_reducible refine (HS0.out _).mono ?_)); rintro e w' ⟨rfl, rfl⟩) | (go_at_call 18; ((with_reducible refine (HS1.out _).mono ?_)); rintro e w' ⟨rfl, rfl⟩))
  refine (HD0.out _).mono ?_
  rintro e w2 ⟨rfl, hbw2⟩
  have z2 := hbw2.size
  try simp at z2
  have c2_0 : w2.cell? ⟨w.heap.size, 0, none⟩ = some (.int .i64 s0) := by rw [(bcell hbw2).1 _ _ (by first | (simp; done) | (simp; omega) | omega)]; simp [go_sem, World.cell?_alloc_past, *]
  have c2_1 : w2.cell? ⟨w.heap.size, 1, none⟩ = some (.int .i64 s1) := by rw [(bcell hbw2).1 _ _ (by first | (simp; done) | (simp; omega) | omega)]; simp [go_sem, World.cell?_alloc_past, *]
  have c2_2 : w2.cell? ⟨w.heap.size + 1, 0, none⟩ = some (.int .i64 l0) := by rw [(bcell hbw2).1 _ _ (by first | (simp; done) | (simp; omega) | omega)]; simp [go_sem, World.cell?_alloc_past, *]
  have c2_3 : w2.cell? ⟨w.heap.size + 1, 1, none⟩ = some (.int .i64 l1) := by rw [(bcell hbw2).1 _ _ (by first | (simp; done) | (simp; omega) | omega)]; simp [go_sem, World.cell?_alloc_past, *]
  have c2_4 : w2.cell? ⟨w.heap.size + 1, 2, none⟩ = some (.int .i64 l2) := by rw [(bcell hbw2).1 _ _ (by first | (simp; done) | (simp; omega) | omega)]; simp [go_sem, World.cell?_alloc_past, *]
  have hB2 : Below w.heap.size w w2 := (by (repeat (first | (with_reducible refine Below.drew ?_) | (with_reducible refine below_drewN ?_ _) | (with_reducible refine Below.alloc ?_ (by first | omega | (simp; done) | (simp; omega) | (simp at *; omega)) _) | (with_reducible refine Below.setCell ?_ (by first | omega | (simp; done) | (simp; omega) | (simp at *; omega)) _) | (with_reducible exact Below.refl _ _) | (with_reducible assumption) | (with_reducible refine Below.trans ?_ (Below.mono (by assumption) (by first | omega | (simp; done) | (simp; omega) | (simp at *; omega)))))))
  clear c1_0 c1_1 c1_2 c1_3 c1_4 o1_0 n1_0 t1_0_1 t1_0_2 t1_0_3 t1_0_4 t1_0_5 o1_1 n1_1 t1_1_1 t1_1_2 t1_1_3 t1_1_4 t1_1_5
  have o2_0 : w.heap.size < w2.heap.size := by omega
  have n2_0 : w2.heap.size ≠ w.heap.size := by omega
  have t2_0_1 : w.heap.size < w2.heap.size + 1 := by omega
  have t2_0_2 : w.heap.size < w2.heap.size + 1 + 1 := by omega
  have t2_0_3 : w.heap.size < w2.heap.size + 1 + 1 + 1 := by omega
  have t2_0_4 : w.heap.size < w2.heap.size + 1 + 1 + 1 + 1 := by omega
  have t2_0_5 : w.heap.size < w2.heap.size + 1 + 1 + 1 + 1 + 1 := by omega
  have o2_1 : w.heap.size + 1 < w2.heap.size := by omega
  have n2_1 : w2.heap.size ≠ w.heap.size + 1 := by omega
  have t2_1_1 : w.heap.size + 1 < w2.heap.size + 1 := by omega
  have t2_1_2 : w.heap.size + 1 < w2.heap.size + 1 + 1 := by omega
  have t2_1_3 : w.heap.size + 1 < w2.heap.size + 1 + 1 + 1 := by omega
  have t2_1_4 : w.heap.size + 1 < w2.heap.size + 1 + 1 + 1 + 1 := by omega
  have t2_1_5 : w.heap.size + 1 < w2.heap.size + 1 + 1 + 1 + 1 + 1 := by omega
  have b2 : w.heap.size ≤ w2.heap.size := by omega
  clear hbw2
  go_wp2_with fail
  refine (HD1.out _).mono ?_
  rintro e w3 ⟨rfl, hbw3⟩
  have z3 := hbw3.size
  try simp at z3
  have c3_0 : w3.cell? ⟨w.heap.size, 0, none⟩ = some (.int .i64 s0) := by rw [(bcell hbw3).1 _ _ (by first | (simp; done) | (simp; omega) | omega)]; simp [go_sem, World.cell?_alloc_past, *]
  have c3_1 : w3.cell? ⟨w.heap.size, 1, none⟩ = some (.int .i64 s1) := by rw [(bcell hbw3).1 _ _ (by first | (simp; done) | (simp; omega) | omega)]; simp [go_sem, World.cell?_alloc_past, *]
  have c3_2 : w3.cell? ⟨w.heap.size + 1, 0, none⟩ = some (.int .i64 l0) := by rw [(bcell hbw3).1 _ _ (by first | (simp; done) | (simp; omega) | omega)]; simp [go_sem, World.cell?_alloc_past, *]
  have c3_3 : w3.cell? ⟨w.heap.size + 1, 1, none⟩ = some (.int .i64 l1) := by rw [(bcell hbw3).1 _ _ (by first | (simp; done) | (simp; omega) | omega)]; simp [go_sem, World.cell?_alloc_past, *]
  have c3_4 : w3.cell? ⟨w.heap.size + 1, 2, none⟩ = some (.int .i64 l2) := by rw [(bcell hbw3).1 _ _ (by first | (simp; done) | (simp; omega) | omega)]; simp [go_sem, World.cell?_alloc_past, *]
  have c3_5 : w3.cell? ⟨w2.heap.size, 0, none⟩ = some (.int .i64 x0) := by rw [(bcell hbw3).1 _ _ (by first | (simp; done) | (simp; omega) | omega)]; simp [go_sem, World.cell?_alloc_past, *]
  have c3_6 : w3.cell? ⟨w2.heap.size, 1, none⟩ = some (.int .i64 y0) := by rw [(bcell hbw3).1 _ _ (by first | (simp; done) | (simp; omega) | omega)]; simp [go_sem, World.cell?_alloc_past, *]
  have hB3 : Below w.heap.size w w3 := (by (repeat (first | (with_reducible refine Below.drew ?_) | (with_reducible refine below_drewN ?_ _) | (with_reducible refine Below.alloc ?_ (by first | omega | (simp; done) | (simp; omega) | (simp at *; omega)) _) | (with_reducible refine Below.setCell ?_ (by first | omega | (simp; done) | (simp; omega) | (simp at *; omega)) _) | (with_reducible exact Below.refl _ _) | (with_reducible assumption) | (with_reducible refine Below.trans ?_ (Below.mono (by assumption) (by first | omega | (simp; done) | (simp; omega) | (simp at *; omega)))))))
  clear c2_0 c2_1 c2_2 c2_3 c2_4 o2_0 n2_0 t2_0_1 t2_0_2 t2_0_3 t2_0_4 t2_0_5 o2_1 n2_1 t2_1_1 t2_1_2 t2_1_3 t2_1_4 t2_1_5
  have o3_0 : w.heap.size < w3.heap.size := by omega
  have n3_0 : w3.heap.size ≠ w.heap.size := by omega
  have t3_0_1 : w.heap.size < w3.heap.size + 1 := by omega
  have t3_0_2 : w.heap.size < w3.heap.size + 1 + 1 := by omega
  have t3_0_3 : w.heap.size < w3.heap.size + 1 + 1 + 1 := by omega
  have t3_0_4 : w.heap.size < w3.heap.size + 1 + 1 + 1 + 1 := by omega
  have t3_0_5 : w.heap.size < w3.heap.size + 1 + 1 + 1 + 1 + 1 := by omega
  have o3_1 : w.heap.size + 1 < w3.heap.size := by omega
  have n3_1 : w3.heap.size ≠ w.heap.size + 1 := by omega
  have t3_1_1 : w.heap.size + 1 < w3.heap.size + 1 := by omega
  have t3_1_2 : w.heap.size + 1 < w3.heap.size + 1 + 1 := by omega
  have t3_1_3 : w.heap.size + 1 < w3.heap.size + 1 + 1 + 1 := by omega
  have t3_1_4 : w.heap.size + 1 < w3.heap.size + 1 + 1 + 1 + 1 := by omega
  have t3_1_5 : w.heap.size + 1 < w3.heap.size + 1 + 1 + 1 + 1 + 1 := by omega
  have o3_2 : w2.heap.size < w3.heap.size := by omega
  have n3_2 : w3.heap.size ≠ w2.heap.size := by omega
  have t3_2_1 : w2.heap.size < w3.heap.size + 1 := by omega
  have t3_2_2 : w2.heap.size < w3.heap.size + 1 + 1 := by omega
  have t3_2_3 : w2.heap.size < w3.heap.size + 1 + 1 + 1 := by omega
  have t3_2_4 : w2.heap.size < w3.heap.size + 1 + 1 + 1 + 1 := by omega
  have t3_2_5 : w2.heap.size < w3.heap.size + 1 + 1 + 1 + 1 + 1 := by omega
  have b3 : w.heap.size ≤ w3.heap.size := by omega
  clear hbw3
  go_wp2_with fail
  refine (HD2.out _).mono ?_
  rintro e w4 ⟨rfl, hbw4⟩
  have z4 := hbw4.size
  try simp at z4
  have c4_0 : w4.cell? ⟨w.heap.size, 0, none⟩ = some (.int .i64 s0) := by rw [(bcell hbw4).1 _ _ (by first | (simp; done) | (simp; omega) | omega)]; simp [go_sem, World.cell?_alloc_past, *]
  have c4_1 : w4.cell? ⟨w.heap.size, 1, none⟩ = some (.int .i64 s1) := by rw [(bcell hbw4).1 _ _ (by first | (simp; done) | (simp; omega) | omega)]; simp [go_sem, World.cell?_alloc_past, *]
  have c4_2 : w4.cell? ⟨w.heap.size + 1, 0, none⟩ = some (.int .i64 l0) := by rw [(bcell hbw4).1 _ _ (by first | (simp; done) | (simp; omega) | omega)]; simp [go_sem, World.cell?_alloc_past, *]
  have c4_3 : w4.cell? ⟨w.heap.size + 1, 1, none⟩ = some (.int .i64 l1) := by rw [(bcell hbw4).1 _ _ (by first | (simp; done) | (simp; omega) | omega)]; simp [go_sem, World.cell?_alloc_past, *]
  have c4_4 : w4.cell? ⟨w.heap.size + 1, 2, none⟩ = some (.int .i64 l2) := by rw [(bcell hbw4).1 _ _ (by first | (simp; done) | (simp; omega) | omega)]; simp [go_sem, World.cell?_alloc_past, *]
  have c4_5 : w4.cell? ⟨w2.heap.size, 0, none⟩ = some (.int .i64 x0) := by rw [(bcell hbw4).1 _ _ (by first | (simp; done) | (simp; omega) | omega)]; simp [go_sem, World.cell?_alloc_past, *]
  have c4_6 : w4.cell? ⟨w2.heap.size, 1, none⟩ = some (.int .i64 y0) := by rw [(bcell hbw4).1 _ _ (by first | (simp; done) | (simp; omega) | omega)]; simp [go_sem, World.cell?_alloc_past, *]
  have c4_7 : w4.cell? ⟨w3.heap.size, 0, none⟩ = some (.int .i64 x1) := by rw [(bcell hbw4).1 _ _ (by first | (simp; done) | (simp; omega) | omega)]; simp [go_sem, World.cell?_alloc_past, *]
  have c4_8 : w4.cell? ⟨w3.heap.size, 1, none⟩ = some (.int .i64 y1) := by rw [(bcell hbw4).1 _ _ (by first | (simp; done) | (simp; omega) | omega)]; simp [go_sem, World.cell?_alloc_past, *]
  have hB4 : Below w.heap.size w w4 := (by (repeat (first | (with_reducible refine Below.drew ?_) | (with_reducible refine below_drewN ?_ _) | (with_reducible refine Below.alloc ?_ (by first | omega | (simp; done) | (simp; omega) | (simp at *; omega)) _) | (with_reducible refine Below.setCell ?_ (by first | omega | (simp; done) | (simp; omega) | (simp at *; omega)) _) | (with_reducible exact Below.refl _ _) | (with_reducible assumption) | (with_reducible refine Below.trans ?_ (Below.mono (by assumption) (by first | omega | (simp; done) | (simp; omega) | (simp at *; omega)))))))
  clear c3_0 c3_1 c3_2 c3_3 c3_4 c3_5 c3_6 o3_0 n3_0 t3_0_1 t3_0_2 t3_0_3 t3_0_4 t3_0_5 o3_1 n3_1 t3_1_1 t3_1_2 t3_1_3 t3_1_4 t3_1_5 o3_2 n3_2 t3_2_1 t3_2_2 t3_2_3 t3_2_4 t3_2_5
  have o4_0 : w.heap.size < w4.heap.size := by omega
  have n4_0 : w4.heap.size ≠ w.heap.size := by omega
  have t4_0_1 : w.heap.size < w4.heap.size + 1 := by omega
  have t4_0_2 : w.heap.size < w4.heap.size + 1 + 1 := by omega
  have t4_0_3 : w.heap.size < w4.heap.size + 1 + 1 + 1 := by omega
  have t4_0_4 : w.heap.size < w4.heap.size + 1 + 1 + 1 + 1 := by omega
  have t4_0_5 : w.heap.size < w4.heap.size + 1 + 1 + 1 + 1 + 1 := by omega
  have o4_1 : w.heap.size + 1 < w4.heap.size := by omega
  have n4_1 : w4.heap.size ≠ w.heap.size + 1 := by omega
  have t4_1_1 : w.heap.size + 1 < w4.heap.size + 1 := by omega
  have t4_1_2 : w.heap.size + 1 < w4.heap.size + 1 + 1 := by omega
  have t4_1_3 : w.heap.size + 1 < w4.heap.size + 1 + 1 + 1 := by omega
  have t4_1_4 : w.heap.size + 1 < w4.heap.size + 1 + 1 + 1 + 1 := by omega
  have t4_1_5 : w.heap.size + 1 < w4.heap.size + 1 + 1 + 1 + 1 + 1 := by omega
  have o4_2 : w2.heap.size < w4.heap.size := by omega
  have n4_2 : w4.heap.size ≠ w2.heap.size := by omega
  have t4_2_1 : w2.heap.size < w4.heap.size + 1 := by omega
  have t4_2_2 : w2.heap.size < w4.heap.size + 1 + 1 := by omega
  have t4_2_3 : w2.heap.size < w4.heap.size + 1 + 1 + 1 := by omega
  have t4_2_4 : w2.heap.size < w4.heap.size + 1 + 1 + 1 + 1 := by omega
  have t4_2_5 : w2.heap.size < w4.heap.size + 1 + 1 + 1 + 1 + 1 := by omega
  have o4_3 : w3.heap.size < w4.heap.size := by omega
  have n4_3 : w4.heap.size ≠ w3.heap.size := by omega
  have t4_3_1 : w3.heap.size < w4.heap.size + 1 := by omega
  have t4_3_2 : w3.heap.size < w4.heap.size + 1 + 1 := by omega
  have t4_3_3 : w3.heap.size < w4.heap.size + 1 + 1 + 1 := by omega
  have t4_3_4 : w3.heap.size < w4.heap.size + 1 + 1 + 1 + 1 := by omega
  have t4_3_5 : w3.heap.size < w4.heap.size + 1 + 1 + 1 + 1 + 1 := by omega
  have b4 : w.heap.size ≤ w4.heap.size := by omega
  clear hbw4
  go_wp2_with (first | (go_at_call 18; ((with_reducible refine (HWa.out _).mono ?_)); rintro e w' ⟨rfl, rfl⟩) | (go_at_call 18; ((with_reducible refine (HWb.out _).mono ?_)); rintro e w' ⟨rfl, rfl⟩) | (go_at_call 18; ((with_reducible refine (HWc.out _).mono ?_)); rintro e w' ⟨rfl, rfl⟩))
  go_ret
  exact ⟨by first | rfl | simp, (by (repeat (first | (with_reducible refine Below.drew ?_) | (with_reducible refine below_drewN ?_ _) | (with_reducible refine Below.alloc ?_ (by first | omega | (simp; done) | (simp; omega) | (simp at *; omega)) _) | (with_reducible refine Below.setCell ?_ (by first | omega | (simp; done) | (simp; omega) | (simp at *; omega)) _) | (with_reducible exact Below.refl _ _) | (with_reducible assumption) | (with_reducible refine Below.trans ?_ (Below.mono (by assumption) (by first | omega | (simp; done) | (simp; omega) | (simp at *; omega)))))))⟩
theorem tissueProducts_any (s0 s1 h l0 l1 l2 : Int) (w : World) :
    Calls Try.prog 4 #[.agg #[.int .i64 s0, .int .i64 s1], .int .i64 h, .agg #[.int .i64 l0, .int .i64 l1, .int .i64 l2]] w fun e w' => e = .returned (.bool true) ∧ Below w.heap.size w w' := by
  rcases inB_cases s0 0 500000 with h0 | h0
  · rcases inB_cases s1 0 500000 with h1 | h1
    · rcases inB_cases h 1 100000 with hh | hh
      · rcases inB_cases l0 0 24 with k0 | k0
        · rcases inB_cases l1 0 24 with k1 | k1
          · rcases inB_cases l2 0 24 with k2 | k2
            · exact tissueProducts_ok s0 s1 h l0 l1 l2 w h0 h1 hh k0 k1 k2
            · exact tissueProducts_l2 s0 s1 h l0 l1 l2 w h0 h1 hh k0 k1 k2
          · exact tissueProducts_l1 s0 s1 h l0 l1 l2 w h0 h1 hh k0 k1
        · exact tissueProducts_l0 s0 s1 h l0 l1 l2 w h0 h1 hh k0
      · exact tissueProducts_h s0 s1 h l0 l1 l2 w h0 h1 hh
    · exact tissueProducts_s1 s0 s1 h l0 l1 l2 w h0 h1
  · exact tissueProducts_s0 s0 s1 h l0 l1 l2 w h0
end Go.Proofs.Ytchfhhmmjioajaa
