/- Arguments that are contents, gases, what is wanted, ranges: opened to their numbers, and shut again. -/
import Derived.Test.YtjkhjjmmkdfjmaaLeaf
import Derived.ProofKit
import Derived.OpenShut
import Derived.Lib.SmallJoins
import Derived.Deep.Slices
import Derived.Deep.Strs
namespace Go.Proofs.Ytjkhjjmmkdfjmaa
open Go.ChangeShapes Go.WideShapes Go.ChangeAt Go.RowKit Go.Joins Go.Deep
set_option linter.unusedVariables false
set_option linter.unusedSimpArgs false
theorem oInt1 : Try.prog.cellsOf 3 = 1 := by kernel_rfl
theorem oMixContentN : Try.prog.cellsOf 49 = 3 := by kernel_rfl
section
variable {H : Type} {enc : TypeId × Value → H} {w : World} {base : Nat} {spare : Nat → Bool} {held : Bool}
set_option maxRecDepth 100000 in
theorem oMixContentCell {n : Nat} {c0 c1 c2 : Value} {x : DataW H × List MemPlace} (h : DataW.trod enc Try.prog w base spare held n 49 [c0, c1, c2] = some x) :
    ∃ a0 a1 a2 : Int, c0 = .int .i64 a0 ∧ c1 = .int .i64 a1 ∧ c2 = .int .i64 a2 ∧ x = (.agg [.lit (.int .i64 a0), .lit (.int .i64 a1), .lit (.int .i64 a2)], []) ∧ (Lit.int .i64 a0).wf = true ∧ (Lit.int .i64 a1).wf = true ∧ (Lit.int .i64 a2).wf = true := by
  obtain ⟨y0, y1, y2, m, rfl, hl, q0, q1, q2⟩ := trod_struct3 Try.underlying49 h
  have r0 : DataW.trod enc Try.prog w base spare held m 3 [c0] = some y0 := by simpa [oInt1, oInt1] using q0
  have r1 : DataW.trod enc Try.prog w base spare held m 3 [c1] = some y1 := by simpa [oInt1, oInt1] using q1
  have r2 : DataW.trod enc Try.prog w base spare held m 3 [c2] = some y2 := by simpa [oInt1, oInt1] using q2
  obtain ⟨a0, e0, rfl, w0⟩ := DataW.trod_int Try.underlying3 r0
  obtain ⟨a1, e1, rfl, w1⟩ := DataW.trod_int Try.underlying3 r1
  obtain ⟨a2, e2, rfl, w2⟩ := DataW.trod_int Try.underlying3 r2
  simp at e0 e1 e2
  subst e0 e1 e2
  exact ⟨a0, a1, a2, rfl, rfl, rfl, by simp, w0, w1, w2⟩
set_option maxRecDepth 100000 in
theorem oMixContentCell_mk {a0 a1 a2 : Int} (m : Nat) (w0 : (Lit.int .i64 a0).wf = true) (w1 : (Lit.int .i64 a1).wf = true) (w2 : (Lit.int .i64 a2).wf = true) :
    DataW.trod enc Try.prog w base spare held (m + 2) 49 [.int .i64 a0, .int .i64 a1, .int .i64 a2] = some (.agg [.lit (.int .i64 a0), .lit (.int .i64 a1), .lit (.int .i64 a2)], []) := by
  have t : ∀ {n : Int}, (Lit.int .i64 n).wf = true → DataW.trod enc Try.prog w base spare held (m + 1) 3 [.int .i64 n] = some (.lit (.int .i64 n), []) := fun h => trod_int_mk (m + 0) Try.underlying3 h
  exact trod_struct3_mk (n := m + 1) (cs := [.int .i64 a0, .int .i64 a1, .int .i64 a2]) Try.underlying49 (by simp [oMixContentN]) (by simpa [oInt1] using t w0) (by simpa [oInt1] using t w1) (by simpa [oInt1] using t w2)
end
set_option maxRecDepth 100000 in
theorem openCon {H : Type} {enc : TypeId × Value → H} {W : World} {r : Reach} {b0 : Nat} {v : Value} {d : DataW H} {p : List MemPlace} (hv : Value.okWide Try.prog W r b0 49 v) (h : DataW.Trod enc Try.prog W 0 (fun _ => true) true 49 v d p) :
    ∃ a0 a1 a2 : Int, v = .agg #[.int .i64 a0, .int .i64 a1, .int .i64 a2] ∧ p = [] ∧ (∀ W', DataW.Trod enc Try.prog W' 0 (fun b => decide (b < W.heap.size)) true 49 v d p) := by
  obtain ⟨cs, rfl, hsz⟩ := okWide_struct Try.underlying49 hv
  rw [oMixContentN] at hsz
  obtain ⟨fuel, hf⟩ := h
  obtain ⟨l⟩ := cs
  match l, hsz with
  | [c0, c1, c2], _ =>
    obtain ⟨a0, a1, a2, rfl, rfl, rfl, hx, w0, w1, w2⟩ := oMixContentCell (by simpa [Value.cells] using hf)
    simp only [Prod.mk.injEq] at hx
    obtain ⟨rfl, rfl⟩ := hx
    exact ⟨a0, a1, a2, rfl, rfl, fun W' => ⟨2, by simpa [Value.cells] using oMixContentCell_mk 0 w0 w1 w2⟩⟩
theorem oGasN : Try.prog.cellsOf 36 = 2 := by kernel_rfl
section
variable {H : Type} {enc : TypeId × Value → H} {w : World} {base : Nat} {spare : Nat → Bool} {held : Bool}
set_option maxRecDepth 100000 in
theorem oGasCell {n : Nat} {c0 c1 : Value} {x : DataW H × List MemPlace} (h : DataW.trod enc Try.prog w base spare held n 36 [c0, c1] = some x) :
    ∃ a0 a1 : Int, c0 = .int .i64 a0 ∧ c1 = .int .i64 a1 ∧ x = (.agg [.lit (.int .i64 a0), .lit (.int .i64 a1)], []) ∧ (Lit.int .i64 a0).wf = true ∧ (Lit.int .i64 a1).wf = true := by
  obtain ⟨y0, y1, m, rfl, hl, q0, q1⟩ := trod_struct2 Try.underlying36 h
  have r0 : DataW.trod enc Try.prog w base spare held m 3 [c0] = some y0 := by simpa [oInt1, oMixContentN] using q0
  have r1 : DataW.trod enc Try.prog w base spare held m 3 [c1] = some y1 := by simpa [oInt1, oMixContentN] using q1
  obtain ⟨a0, e0, rfl, w0⟩ := DataW.trod_int Try.underlying3 r0
  obtain ⟨a1, e1, rfl, w1⟩ := DataW.trod_int Try.underlying3 r1
  simp at e0 e1
  subst e0 e1
  exact ⟨a0, a1, rfl, rfl, by simp, w0, w1⟩
set_option maxRecDepth 100000 in
theorem oGasCell_mk {a0 a1 : Int} (m : Nat) (w0 : (Lit.int .i64 a0).wf = true) (w1 : (Lit.int .i64 a1).wf = true) :
    DataW.trod enc Try.prog w base spare held (m + 2) 36 [.int .i64 a0, .int .i64 a1] = some (.agg [.lit (.int .i64 a0), .lit (.int .i64 a1)], []) := by
  have t : ∀ {n : Int}, (Lit.int .i64 n).wf = true → DataW.trod enc Try.prog w base spare held (m + 1) 3 [.int .i64 n] = some (.lit (.int .i64 n), []) := fun h => trod_int_mk (m + 0) Try.underlying3 h
  exact trod_struct2_mk (n := m + 1) (cs := [.int .i64 a0, .int .i64 a1]) Try.underlying36 (by simp [oGasN]) (by simpa [oInt1] using t w0) (by simpa [oInt1] using t w1)
end
set_option maxRecDepth 100000 in
theorem openGas {H : Type} {enc : TypeId × Value → H} {W : World} {r : Reach} {b0 : Nat} {v : Value} {d : DataW H} {p : List MemPlace} (hv : Value.okWide Try.prog W r b0 36 v) (h : DataW.Trod enc Try.prog W 0 (fun _ => true) true 36 v d p) :
    ∃ a0 a1 : Int, v = .agg #[.int .i64 a0, .int .i64 a1] ∧ p = [] ∧ (∀ W', DataW.Trod enc Try.prog W' 0 (fun b => decide (b < W.heap.size)) true 36 v d p) := by
  obtain ⟨cs, rfl, hsz⟩ := okWide_struct Try.underlying36 hv
  rw [oGasN] at hsz
  obtain ⟨fuel, hf⟩ := h
  obtain ⟨l⟩ := cs
  match l, hsz with
  | [c0, c1], _ =>
    obtain ⟨a0, a1, rfl, rfl, hx, w0, w1⟩ := oGasCell (by simpa [Value.cells] using hf)
    simp only [Prod.mk.injEq] at hx
    obtain ⟨rfl, rfl⟩ := hx
    exact ⟨a0, a1, rfl, rfl, fun W' => ⟨2, by simpa [Value.cells] using oGasCell_mk 0 w0 w1⟩⟩
theorem oMixWantedN : Try.prog.cellsOf 81 = 5 := by kernel_rfl
section
variable {H : Type} {enc : TypeId × Value → H} {w : World} {base : Nat} {spare : Nat → Bool} {held : Bool}
set_option maxRecDepth 100000 in
theorem oMixWantedCell {n : Nat} {c0 c1 c2 c3 c4 : Value} {x : DataW H × List MemPlace} (h : DataW.trod enc Try.prog w base spare held n 81 [c0, c1, c2, c3, c4] = some x) :
    ∃ a0 a1 a2 a3 a4 : Int, c0 = .int .i64 a0 ∧ c1 = .int .i64 a1 ∧ c2 = .int .i64 a2 ∧ c3 = .int .i64 a3 ∧ c4 = .int .i64 a4 ∧ x = (.agg [.agg [.lit (.int .i64 a0), .lit (.int .i64 a1)], .agg [.lit (.int .i64 a2), .lit (.int .i64 a3)], .lit (.int .i64 a4)], []) ∧ (Lit.int .i64 a0).wf = true ∧ (Lit.int .i64 a1).wf = true ∧ (Lit.int .i64 a2).wf = true ∧ (Lit.int .i64 a3).wf = true ∧ (Lit.int .i64 a4).wf = true := by
  obtain ⟨y0, y1, y2, m, rfl, hl, q0, q1, q2⟩ := trod_struct3 Try.underlying81 h
  have r0 : DataW.trod enc Try.prog w base spare held m 36 [c0, c1] = some y0 := by simpa [oInt1, oGasN, oMixContentN] using q0
  have r1 : DataW.trod enc Try.prog w base spare held m 36 [c2, c3] = some y1 := by simpa [oInt1, oGasN, oMixContentN] using q1
  have r2 : DataW.trod enc Try.prog w base spare held m 3 [c4] = some y2 := by simpa [oInt1, oGasN, oMixContentN] using q2
  obtain ⟨a0, a1, rfl, rfl, rfl, w0, w1⟩ := oGasCell r0
  obtain ⟨a2, a3, rfl, rfl, rfl, w2, w3⟩ := oGasCell r1
  obtain ⟨a4, e4, rfl, w4⟩ := DataW.trod_int Try.underlying3 r2
  simp at e4
  subst e4
  exact ⟨a0, a1, a2, a3, a4, rfl, rfl, rfl, rfl, rfl, by simp, w0, w1, w2, w3, w4⟩
set_option maxRecDepth 100000 in
theorem oMixWantedCell_mk {a0 a1 a2 a3 a4 : Int} (m : Nat) (w0 : (Lit.int .i64 a0).wf = true) (w1 : (Lit.int .i64 a1).wf = true) (w2 : (Lit.int .i64 a2).wf = true) (w3 : (Lit.int .i64 a3).wf = true) (w4 : (Lit.int .i64 a4).wf = true) :
    DataW.trod enc Try.prog w base spare held (m + 3) 81 [.int .i64 a0, .int .i64 a1, .int .i64 a2, .int .i64 a3, .int .i64 a4] = some (.agg [.agg [.lit (.int .i64 a0), .lit (.int .i64 a1)], .agg [.lit (.int .i64 a2), .lit (.int .i64 a3)], .lit (.int .i64 a4)], []) := by
  have t : ∀ {n : Int}, (Lit.int .i64 n).wf = true → DataW.trod enc Try.prog w base spare held (m + 2) 3 [.int .i64 n] = some (.lit (.int .i64 n), []) := fun h => trod_int_mk (m + 1) Try.underlying3 h
  exact trod_struct3_mk (n := m + 2) (cs := [.int .i64 a0, .int .i64 a1, .int .i64 a2, .int .i64 a3, .int .i64 a4]) Try.underlying81 (by simp [oMixWantedN]) (by simpa [oGasN] using oGasCell_mk (enc := enc) (w := w) (base := base) (spare := spare) (held := held) (m + 0) w0 w1) (by simpa [oGasN] using oGasCell_mk (enc := enc) (w := w) (base := base) (spare := spare) (held := held) (m + 0) w2 w3) (by simpa [oInt1] using t w4)
end
set_option maxRecDepth 100000 in
theorem openWanted {H : Type} {enc : TypeId × Value → H} {W : World} {r : Reach} {b0 : Nat} {v : Value} {d : DataW H} {p : List MemPlace} (hv : Value.okWide Try.prog W r b0 81 v) (h : DataW.Trod enc Try.prog W 0 (fun _ => true) true 81 v d p) :
    ∃ a0 a1 a2 a3 a4 : Int, v = .agg #[.int .i64 a0, .int .i64 a1, .int .i64 a2, .int .i64 a3, .int .i64 a4] ∧ p = [] ∧ (∀ W', DataW.Trod enc Try.prog W' 0 (fun b => decide (b < W.heap.size)) true 81 v d p) := by
  obtain ⟨cs, rfl, hsz⟩ := okWide_struct Try.underlying81 hv
  rw [oMixWantedN] at hsz
  obtain ⟨fuel, hf⟩ := h
  obtain ⟨l⟩ := cs
  match l, hsz with
  | [c0, c1, c2, c3, c4], _ =>
    obtain ⟨a0, a1, a2, a3, a4, rfl, rfl, rfl, rfl, rfl, hx, w0, w1, w2, w3, w4⟩ := oMixWantedCell (by simpa [Value.cells] using hf)
    simp only [Prod.mk.injEq] at hx
    obtain ⟨rfl, rfl⟩ := hx
    exact ⟨a0, a1, a2, a3, a4, rfl, rfl, fun W' => ⟨3, by simpa [Value.cells] using oMixWantedCell_mk 0 w0 w1 w2 w3 w4⟩⟩
theorem oRangeN : Try.prog.cellsOf 55 = 2 := by kernel_rfl
section
variable {H : Type} {enc : TypeId × Value → H} {w : World} {base : Nat} {spare : Nat → Bool} {held : Bool}
set_option maxRecDepth 100000 in
theorem oRangeCell {n : Nat} {c0 c1 : Value} {x : DataW H × List MemPlace} (h : DataW.trod enc Try.prog w base spare held n 55 [c0, c1] = some x) :
    ∃ a0 a1 : Int, c0 = .int .i64 a0 ∧ c1 = .int .i64 a1 ∧ x = (.agg [.lit (.int .i64 a0), .lit (.int .i64 a1)], []) ∧ (Lit.int .i64 a0).wf = true ∧ (Lit.int .i64 a1).wf = true := by
  obtain ⟨y0, y1, m, rfl, hl, q0, q1⟩ := trod_struct2 Try.underlying55 h
  have r0 : DataW.trod enc Try.prog w base spare held m 3 [c0] = some y0 := by simpa [oInt1, oGasN, oMixContentN, oMixWantedN] using q0
  have r1 : DataW.trod enc Try.prog w base spare held m 3 [c1] = some y1 := by simpa [oInt1, oGasN, oMixContentN, oMixWantedN] using q1
  obtain ⟨a0, e0, rfl, w0⟩ := DataW.trod_int Try.underlying3 r0
  obtain ⟨a1, e1, rfl, w1⟩ := DataW.trod_int Try.underlying3 r1
  simp at e0 e1
  subst e0 e1
  exact ⟨a0, a1, rfl, rfl, by simp, w0, w1⟩
set_option maxRecDepth 100000 in
theorem oRangeCell_mk {a0 a1 : Int} (m : Nat) (w0 : (Lit.int .i64 a0).wf = true) (w1 : (Lit.int .i64 a1).wf = true) :
    DataW.trod enc Try.prog w base spare held (m + 2) 55 [.int .i64 a0, .int .i64 a1] = some (.agg [.lit (.int .i64 a0), .lit (.int .i64 a1)], []) := by
  have t : ∀ {n : Int}, (Lit.int .i64 n).wf = true → DataW.trod enc Try.prog w base spare held (m + 1) 3 [.int .i64 n] = some (.lit (.int .i64 n), []) := fun h => trod_int_mk (m + 0) Try.underlying3 h
  exact trod_struct2_mk (n := m + 1) (cs := [.int .i64 a0, .int .i64 a1]) Try.underlying55 (by simp [oRangeN]) (by simpa [oInt1] using t w0) (by simpa [oInt1] using t w1)
end
set_option maxRecDepth 100000 in
theorem openRng {H : Type} {enc : TypeId × Value → H} {W : World} {r : Reach} {b0 : Nat} {v : Value} {d : DataW H} {p : List MemPlace} (hv : Value.okWide Try.prog W r b0 55 v) (h : DataW.Trod enc Try.prog W 0 (fun _ => true) true 55 v d p) :
    ∃ a0 a1 : Int, v = .agg #[.int .i64 a0, .int .i64 a1] ∧ p = [] ∧ (∀ W', DataW.Trod enc Try.prog W' 0 (fun b => decide (b < W.heap.size)) true 55 v d p) := by
  obtain ⟨cs, rfl, hsz⟩ := okWide_struct Try.underlying55 hv
  rw [oRangeN] at hsz
  obtain ⟨fuel, hf⟩ := h
  obtain ⟨l⟩ := cs
  match l, hsz with
  | [c0, c1], _ =>
    obtain ⟨a0, a1, rfl, rfl, hx, w0, w1⟩ := oRangeCell (by simpa [Value.cells] using hf)
    simp only [Prod.mk.injEq] at hx
    obtain ⟨rfl, rfl⟩ := hx
    exact ⟨a0, a1, rfl, rfl, fun W' => ⟨2, by simpa [Value.cells] using oRangeCell_mk 0 w0 w1⟩⟩
end Go.Proofs.Ytjkhjjmmkdfjmaa
