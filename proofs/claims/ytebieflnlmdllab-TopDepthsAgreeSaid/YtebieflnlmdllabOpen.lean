/- Arguments that are structs of five ints, some of them in a struct of their own: opened to their numbers, and shut again. -/
import Derived.Test.YtebieflnlmdllabRows
import Derived.WalkKit
import Derived.ProofKit
import Derived.OpenShut
import Derived.Lib.SmallJoins
import Derived.Deep.Strs
namespace Go.Proofs.Ytebieflnlmdllab
open Go.ChangeShapes Go.WideShapes Go.ChangeAt Go.RowKit Go.Joins Go.Deep
set_option linter.unusedVariables false

theorem arr5 {α : Type} {cs : Array α} (h : cs.size = 5) : ∃ c0 c1 c2 c3 c4, cs = #[c0, c1, c2, c3, c4] := by
  obtain ⟨l⟩ := cs
  match l, h with
  | [c0, c1, c2, c3, c4], _ => exact ⟨c0, c1, c2, c3, c4, rfl⟩
theorem cInt : Try.prog.cellsOf 3 = 1 := by kernel_rfl
theorem cLim : Try.prog.cellsOf 23 = 2 := by kernel_rfl
theorem cAim : Try.prog.cellsOf 25 = 5 := by kernel_rfl
abbrev L64 (n : Int) : Lit := .int .i64 n
section
variable {H : Type} {enc : TypeId × Value → H} {w : World} {base : Nat} {spare : Nat → Bool} {held : Bool}
theorem tInt {a : Int} (m : Nat) (h : (Lit.int .i64 a).wf = true) : DataW.trod enc Try.prog w base spare held (m + 1) 3 [.int .i64 a] = some (.lit (.int .i64 a), []) := trod_int_mk m Try.underlying3 h
set_option maxRecDepth 100000 in
theorem openAim {r : Reach} {b0 : Nat} {v : Value} {d : DataW H} {p : List MemPlace} (hv : Value.okWide Try.prog w r b0 25 v) (h : DataW.Trod enc Try.prog w base spare held 25 v d p) :
    ∃ a0 a1 a2 a3 a4 : Int, v = .agg #[.int .i64 a0, .int .i64 a1, .int .i64 a2, .int .i64 a3, .int .i64 a4] ∧ d = .agg [.lit (.int .i64 a0), .lit (.int .i64 a1), .agg [.lit (.int .i64 a2), .lit (.int .i64 a3)], .lit (.int .i64 a4)] ∧ p = []
      ∧ (Lit.int .i64 a0).wf = true ∧ (Lit.int .i64 a1).wf = true ∧ (Lit.int .i64 a2).wf = true ∧ (Lit.int .i64 a3).wf = true ∧ (Lit.int .i64 a4).wf = true := by
  obtain ⟨cs, rfl, hsz⟩ := okWide_struct Try.underlying25 hv
  obtain ⟨c0, c1, c2, c3, c4, rfl⟩ := arr5 (hsz.trans cAim)
  obtain ⟨fuel, hf⟩ := h
  obtain ⟨y0, y1, y2, y3, n, hx, _, h0, h1, h2, h3⟩ := trod_struct4 Try.underlying25 hf
  have g0 : DataW.trod enc Try.prog w base spare held n 3 [c0] = some y0 := by simpa [Value.cells, cInt] using h0
  have g1 : DataW.trod enc Try.prog w base spare held n 3 [c1] = some y1 := by simpa [Value.cells, cInt] using h1
  have g2 : DataW.trod enc Try.prog w base spare held n 23 [c2, c3] = some y2 := by simpa [Value.cells, cLim] using h2
  have g3 : DataW.trod enc Try.prog w base spare held n 3 [c4] = some y3 := by simpa [Value.cells, cInt] using h3
  obtain ⟨x0, x1, n2, hx2, _, q0, q1⟩ := trod_struct2 Try.underlying23 g2
  have r0 : DataW.trod enc Try.prog w base spare held n2 3 [c2] = some x0 := by simpa [cInt] using q0
  have r1 : DataW.trod enc Try.prog w base spare held n2 3 [c3] = some x1 := by simpa [cInt] using q1
  obtain ⟨a0, e0, rfl, w0⟩ := DataW.trod_int Try.underlying3 g0
  obtain ⟨a1, e1, rfl, w1⟩ := DataW.trod_int Try.underlying3 g1
  obtain ⟨a2, e2, rfl, w2⟩ := DataW.trod_int Try.underlying3 r0
  obtain ⟨a3, e3, rfl, w3⟩ := DataW.trod_int Try.underlying3 r1
  obtain ⟨a4, e4, rfl, w4⟩ := DataW.trod_int Try.underlying3 g3
  simp at e0 e1 e2 e3 e4
  subst e0 e1 e2 e3 e4 hx2
  simp only [Prod.mk.injEq] at hx
  exact ⟨a0, a1, a2, a3, a4, rfl, hx.1, by simpa using hx.2, w0, w1, w2, w3, w4⟩
set_option maxRecDepth 100000 in
theorem shutAim {a0 a1 a2 a3 a4 : Int} (w0 : (Lit.int .i64 a0).wf = true) (w1 : (Lit.int .i64 a1).wf = true) (w2 : (Lit.int .i64 a2).wf = true) (w3 : (Lit.int .i64 a3).wf = true) (w4 : (Lit.int .i64 a4).wf = true) :
    DataW.Trod enc Try.prog w base spare held 25 (.agg #[.int .i64 a0, .int .i64 a1, .int .i64 a2, .int .i64 a3, .int .i64 a4]) (.agg [.lit (.int .i64 a0), .lit (.int .i64 a1), .agg [.lit (.int .i64 a2), .lit (.int .i64 a3)], .lit (.int .i64 a4)]) [] := by
  have tl := trod_struct2_mk (enc := enc) (w := w) (base := base) (spare := spare) (held := held) (n := 1) (cs := [.int .i64 a2, .int .i64 a3]) Try.underlying23 (by simp [cLim])
    (by simpa [cInt] using tInt (enc := enc) (w := w) (base := base) (spare := spare) (held := held) 0 w2) (by simpa [cInt] using tInt (enc := enc) (w := w) (base := base) (spare := spare) (held := held) 0 w3)
  have ts := trod_struct4_mk (enc := enc) (w := w) (base := base) (spare := spare) (held := held) (n := 2) (cs := [.int .i64 a0, .int .i64 a1, .int .i64 a2, .int .i64 a3, .int .i64 a4]) Try.underlying25 (by simp [cAim])
    (by simpa [cInt] using tInt (enc := enc) (w := w) (base := base) (spare := spare) (held := held) 1 w0) (by simpa [cInt] using tInt (enc := enc) (w := w) (base := base) (spare := spare) (held := held) 1 w1)
    (by simpa [cLim] using tl) (by simpa [cInt] using tInt (enc := enc) (w := w) (base := base) (spare := spare) (held := held) 1 w4)
  exact ⟨_, by simpa [Value.cells] using ts⟩
end
end Go.Proofs.Ytebieflnlmdllab
