/- Contracts at values that have names of their own. -/
import Derived.Test.YtebieflnlmdllaaDoorEquiv
import Derived.Test.YtebieflnlmdllaaDoorRefA
import Derived.Test.YtebieflnlmdllaaDoorShelf
import Derived.Outline
namespace Go.Proofs.YtebieflnlmdllaaDoor
open Go.ChangeShapes Go.WideShapes Go.ChangeAt Go.RowKit
set_option linter.unusedVariables false
set_option linter.unusedSimpArgs false

theorem mxLen (W : World) (h : W.ShapedOpen Tryd.prog) : ∃ m, W.cell? ⟨1, 0, none⟩ = some (.int .i64 m) := Tryd.laysM145.s1_3 W h
theorem oldCell {w w' : World} {b o : Nat} {v : Value} (hb : Below w.heap.size w w') (h : w.cell? ⟨b, o, none⟩ = some v) : w'.cell? ⟨b, o, none⟩ = some v :=
  (hb.cell (p := ⟨b, o, none⟩) (by have := World.block_lt_of_cell? _ _ h; simpa using this)).trans h
theorem place_is (o h s d c : Int) (w : World) (hz : Hid (eqE o h s d = c)) :
    Calls Tryd.prog 32 #[.agg #[.int .i64 o, .int .i64 h], .int .i64 s, .int .i64 d] w fun e w' => e = .returned (.int .i64 c) ∧ Below w.heap.size w w' := by
  have := place_any o h s d w
  rw [hz.out] at this
  exact this
theorem DepthsFor_is (o h s a b x y c : Int) (w : World) (hx : Hid (depL o h s a b = x)) (hy : Hid (depH o h s a b = y)) (hc : Hid (depE o h s a b = c)) :
    Calls Tryd.prog 29 #[.agg #[.int .i64 o, .int .i64 h], .int .i64 s, .agg #[.int .i64 a, .int .i64 b]] w fun e w' => e = .returned (.tuple #[.agg #[.int .i64 x, .int .i64 y], .int .i64 c]) ∧ Below w.heap.size w w' := by
  have := DepthsFor_any o h s a b w
  rw [hx.out, hy.out, hc.out] at this
  exact this
theorem CheckLimits_is (a b c : Int) (w : World) (hc : Hid (limE a b = c)) :
    Calls Tryd.prog 30 #[.agg #[.int .i64 a, .int .i64 b]] w fun e w' => e = .returned (.int .i64 c) ∧ ((w.alloc (.cells #[.int .i64 a, .int .i64 b] 47)).alloc (.cells #[.int .i64 (rngE a 1 4000), .int .i64 (rngE b 1 4000)] 25)).drew = w' := by
  have := CheckLimits_any a b w
  rw [hc.out] at this
  exact this
theorem refCheckLimits_is (a b c : Int) (w : World) (hc : Hid (limE a b = c)) :
    Calls Tryd.prog 31 #[.agg #[.int .i64 a, .int .i64 b]] w fun e w' => e = .returned (.int .i64 c) ∧ w.alloc (.cells #[.int .i64 a, .int .i64 b] 47) = w' := by
  have := refCheckLimits_any a b w
  rw [hc.out] at this
  exact this
theorem Partial_v (o h p X Y Z : Int) (w : World) (k1 : 0 ≤ o) (k2 : o ≤ 1000) (k3 : 0 ≤ h) (k4 : h ≤ 1000) (k5 : 0 ≤ p) (k6 : p ≤ 100000) (k7 : o + h ≤ 1000) (hX : Hid (o * p = X)) (hY : Hid (h * p = Y)) (hZ : Hid ((1000 - o - h) * p = Z)) :
    Calls Tryd.prog 26 #[.agg #[.int .i64 o, .int .i64 h], .int .i64 p] w fun e w' => e = .returned (.tuple #[.agg #[.int .i64 X, .int .i64 Y, .int .i64 Z], .int .i64 0]) ∧ Below w.heap.size w w' := by
  have hb : (paE o h p != 0) = false := by
    unfold paE
    rw [show gasE o h = 0 by unfold gasE; rw [if_pos ⟨inB_true k1 k2, inB_true k3 k4⟩, if_pos k7], rngE_t (inB_true k5 k6)]
    decide
  have := Partial_t2 o h p w hb k1 k2 k3 k4 k5 k6 k7
  rw [hX.out, hY.out, hZ.out] at this
  exact this
end Go.Proofs.YtebieflnlmdllaaDoor
