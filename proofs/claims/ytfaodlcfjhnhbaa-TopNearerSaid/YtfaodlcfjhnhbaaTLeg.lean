/- An argument that is a leg: opened to its numbers, and shut again. -/
import Derived.Test.YtfaodlcfjhnhbaaMDive
import Derived.ProofKit
import Derived.OpenShut
import Derived.Lib.SmallJoins
import Derived.Deep.Slices
import Derived.Deep.Strs
namespace Go.Proofs.Ytfaodlcfjhnhbaa
open Go.ChangeShapes Go.WideShapes Go.ChangeAt Go.RowKit Go.Joins Go.Deep
set_option linter.unusedVariables false
set_option linter.unusedSimpArgs false
theorem cLeg5T : Try.prog.cellsOf 27 = 5 := by kernel_rfl
theorem cGas2T : Try.prog.cellsOf 25 = 2 := by kernel_rfl
section
variable {H : Type} {enc : TypeId × Value → H} {w : World} {base : Nat} {spare : Nat → Bool} {held : Bool}
set_option maxRecDepth 100000 in
theorem gasCellT {n : Nat} {c0 c1 : Value} {x : DataW H × List MemPlace} (h : DataW.trod enc Try.prog w base spare held n 25 [c0, c1] = some x) :
    ∃ o p : Int, c0 = .int .i64 o ∧ c1 = .int .i64 p ∧ x = (.agg [.lit (.int .i64 o), .lit (.int .i64 p)], []) ∧ (Lit.int .i64 o).wf = true ∧ (Lit.int .i64 p).wf = true := by
  obtain ⟨z0, z1, m', rfl, hl', t0, t1⟩ := trod_struct2 Try.underlying25 h
  have s0 : DataW.trod enc Try.prog w base spare held m' 3 [c0] = some z0 := by simpa [cIntL] using t0
  have s1 : DataW.trod enc Try.prog w base spare held m' 3 [c1] = some z1 := by simpa [cIntL] using t1
  obtain ⟨a0, e0, rfl, w0⟩ := DataW.trod_int Try.underlying3 s0
  obtain ⟨a1, e1, rfl, w1⟩ := DataW.trod_int Try.underlying3 s1
  simp at e0 e1
  subst e0 e1
  exact ⟨a0, a1, rfl, rfl, by simp, w0, w1⟩
set_option maxRecDepth 100000 in
theorem gasCellT_mk {o h : Int} (w0 : (Lit.int .i64 o).wf = true) (w1 : (Lit.int .i64 h).wf = true) :
    DataW.trod enc Try.prog w base spare held 2 25 [.int .i64 o, .int .i64 h] = some (.agg [.lit (.int .i64 o), .lit (.int .i64 h)], []) := by
  have t0 : DataW.trod enc Try.prog w base spare held 1 3 [.int .i64 o] = some (.lit (.int .i64 o), []) := trod_int_mk 0 Try.underlying3 w0
  have t1 : DataW.trod enc Try.prog w base spare held 1 3 [.int .i64 h] = some (.lit (.int .i64 h), []) := trod_int_mk 0 Try.underlying3 w1
  exact trod_struct2_mk (n := 1) (cs := [.int .i64 o, .int .i64 h]) Try.underlying25 (by simp [cGas2T]) (by simpa [cIntL] using t0) (by simpa [cIntL] using t1)
set_option maxRecDepth 100000 in
theorem legCellT {n : Nat} {c0 c1 c2 c3 c4 : Value} {x : DataW H × List MemPlace} (h : DataW.trod enc Try.prog w base spare held n 27 [c0, c1, c2, c3, c4] = some x) :
    ∃ a b c o p : Int, c0 = .int .i64 a ∧ c1 = .int .i64 b ∧ c2 = .int .i64 c ∧ c3 = .int .i64 o ∧ c4 = .int .i64 p ∧ x = (.agg [.lit (.int .i64 a), .lit (.int .i64 b), .lit (.int .i64 c), .agg [.lit (.int .i64 o), .lit (.int .i64 p)]], []) ∧ (Lit.int .i64 a).wf = true ∧ (Lit.int .i64 b).wf = true ∧ (Lit.int .i64 c).wf = true ∧ (Lit.int .i64 o).wf = true ∧ (Lit.int .i64 p).wf = true := by
  obtain ⟨y0, y1, y2, y3, m, rfl, hl, q0, q1, q2, q3⟩ := trod_struct4 Try.underlying27 h
  have r0 : DataW.trod enc Try.prog w base spare held m 3 [c0] = some y0 := by simpa [cIntL] using q0
  have r1 : DataW.trod enc Try.prog w base spare held m 3 [c1] = some y1 := by simpa [cIntL] using q1
  have r2 : DataW.trod enc Try.prog w base spare held m 3 [c2] = some y2 := by simpa [cIntL] using q2
  have r3 : DataW.trod enc Try.prog w base spare held m 25 [c3, c4] = some y3 := by simpa [cGas2T] using q3
  obtain ⟨a0, e0, rfl, w0⟩ := DataW.trod_int Try.underlying3 r0
  obtain ⟨a1, e1, rfl, w1⟩ := DataW.trod_int Try.underlying3 r1
  obtain ⟨a2, e2, rfl, w2⟩ := DataW.trod_int Try.underlying3 r2
  obtain ⟨o, pp, rfl, rfl, rfl, w3, w4⟩ := gasCellT r3
  simp at e0 e1 e2
  subst e0 e1 e2
  exact ⟨a0, a1, a2, o, pp, rfl, rfl, rfl, rfl, rfl, by simp, w0, w1, w2, w3, w4⟩
set_option maxRecDepth 100000 in
theorem legCellT_mk {a b c o p : Int} (w0 : (Lit.int .i64 a).wf = true) (w1 : (Lit.int .i64 b).wf = true) (w2 : (Lit.int .i64 c).wf = true) (w3 : (Lit.int .i64 o).wf = true) (w4 : (Lit.int .i64 p).wf = true) :
    DataW.trod enc Try.prog w base spare held 3 27 [.int .i64 a, .int .i64 b, .int .i64 c, .int .i64 o, .int .i64 p] = some (.agg [.lit (.int .i64 a), .lit (.int .i64 b), .lit (.int .i64 c), .agg [.lit (.int .i64 o), .lit (.int .i64 p)]], []) := by
  have t : ∀ {n : Int}, (Lit.int .i64 n).wf = true → DataW.trod enc Try.prog w base spare held 2 3 [.int .i64 n] = some (.lit (.int .i64 n), []) := fun h => trod_int_mk 1 Try.underlying3 h
  exact trod_struct4_mk (n := 2) (cs := [.int .i64 a, .int .i64 b, .int .i64 c, .int .i64 o, .int .i64 p]) Try.underlying27 (by simp [cLeg5T]) (by simpa [cIntL] using t w0) (by simpa [cIntL] using t w1) (by simpa [cIntL] using t w2) (by simpa [cGas2T] using gasCellT_mk w3 w4)
end
set_option maxRecDepth 100000 in
theorem openLeg {H : Type} {enc : TypeId × Value → H} {W : World} {r : Reach} {b0 : Nat} {v : Value} {d : DataW H} {p : List MemPlace} (hv : Value.okWide Try.prog W r b0 27 v) (h : DataW.Trod enc Try.prog W 0 (fun _ => true) true 27 v d p) :
    ∃ a b c o q : Int, v = .agg #[.int .i64 a, .int .i64 b, .int .i64 c, .int .i64 o, .int .i64 q] ∧ p = [] ∧ (∀ W', DataW.Trod enc Try.prog W' 0 (fun b => decide (b < W.heap.size)) true 27 v d p) := by
  obtain ⟨cs, rfl, hsz⟩ := okWide_struct Try.underlying27 hv
  rw [cLeg5T] at hsz
  obtain ⟨fuel, hf⟩ := h
  obtain ⟨l⟩ := cs
  match l, hsz with
  | [c0, c1, c2, c3, c4], _ =>
    obtain ⟨a, b, c, o, q, rfl, rfl, rfl, rfl, rfl, hx, w0, w1, w2, w3, w4⟩ := legCellT (by simpa [Value.cells] using hf)
    simp only [Prod.mk.injEq] at hx
    obtain ⟨rfl, rfl⟩ := hx
    exact ⟨a, b, c, o, q, rfl, rfl, fun W' => ⟨3, by simpa [Value.cells] using legCellT_mk w0 w1 w2 w3 w4⟩⟩
end Go.Proofs.Ytfaodlcfjhnhbaa
