/- Arguments that are arrays of two or three ints: opened, and shut again. -/
import Derived.Test.YtchfhhmmjioajaaLeaf
import Derived.ProofKit
import Derived.OpenShut
import Derived.Lib.SmallJoins
namespace Go.Proofs.Ytchfhhmmjioajaa
open Go.ChangeShapes Go.WideShapes Go.ChangeAt Go.RowKit Go.Joins
set_option linter.unusedVariables false
set_option linter.unusedSimpArgs false
section
variable {H : Type} {enc : TypeId × Value → H} {P : Program} {W : World} {base : Nat} {sp : Nat → Bool} {held : Bool}
theorem openArr2 {t e : TypeId} {r : Reach} {b0 : Nat} {v : Value} {d : DataW H} {p : List MemPlace} (hu : P.underlying t = some (.array 2 e)) (he : P.underlying e = some (.int .i64)) (hc : P.cellsOf e = 1) (hC : P.cellsOf t = 2)
    (hv : Value.okWide P W r b0 t v) (h : DataW.Trod enc P W base sp held t v d p) :
    ∃ a b : Int, v = .agg #[.int .i64 a, .int .i64 b] ∧ d = .agg [.lit (.int .i64 a), .lit (.int .i64 b)] ∧ p = [] ∧ (Lit.int .i64 a).wf = true ∧ (Lit.int .i64 b).wf = true := by
  simp only [Value.okWide, hu] at hv
  obtain ⟨cs, rfl, hsz, _⟩ := hv
  obtain ⟨c0, c1, rfl⟩ := array2 (hsz.trans hC)
  obtain ⟨fuel, hf⟩ := h
  cases fuel with
  | zero => simp [DataW.trod] at hf
  | succ m =>
    rw [DataW.trod_step] at hf
    unfold DataW.trodStep at hf
    simp only [hu, Value.cells] at hf
    rw [if_pos (by simp [hC])] at hf
    simp only [Option.map_eq_some_iff] at hf
    obtain ⟨ys, hy, e1⟩ := hf
    simp [List.range_succ, hc, Option.bind_eq_some_iff] at hy
    obtain ⟨a0, b0, h0, L, ⟨a1, b1, h1, rfl⟩, rfl⟩ := hy
    obtain ⟨a, ea, x0, wa⟩ := DataW.trod_int he h0
    obtain ⟨b, eb, x1, wb⟩ := DataW.trod_int he h1
    simp only [Prod.mk.injEq] at x0 x1
    obtain ⟨rfl, rfl⟩ := x0
    obtain ⟨rfl, rfl⟩ := x1
    simp at ea eb e1
    subst ea eb
    exact ⟨a, b, rfl, e1.1.symm, e1.2, wa, wb⟩
theorem openArr3 {t e : TypeId} {r : Reach} {b0 : Nat} {v : Value} {d : DataW H} {p : List MemPlace} (hu : P.underlying t = some (.array 3 e)) (he : P.underlying e = some (.int .i64)) (hc : P.cellsOf e = 1) (hC : P.cellsOf t = 3)
    (hv : Value.okWide P W r b0 t v) (h : DataW.Trod enc P W base sp held t v d p) :
    ∃ a b c : Int, v = .agg #[.int .i64 a, .int .i64 b, .int .i64 c] ∧ d = .agg [.lit (.int .i64 a), .lit (.int .i64 b), .lit (.int .i64 c)] ∧ p = [] ∧ (Lit.int .i64 a).wf = true ∧ (Lit.int .i64 b).wf = true ∧ (Lit.int .i64 c).wf = true := by
  simp only [Value.okWide, hu] at hv
  obtain ⟨cs, rfl, hsz, _⟩ := hv
  obtain ⟨c0, c1, c2, rfl⟩ := array3 (hsz.trans hC)
  obtain ⟨fuel, hf⟩ := h
  cases fuel with
  | zero => simp [DataW.trod] at hf
  | succ m =>
    rw [DataW.trod_step] at hf
    unfold DataW.trodStep at hf
    simp only [hu, Value.cells] at hf
    rw [if_pos (by simp [hC])] at hf
    simp only [Option.map_eq_some_iff] at hf
    obtain ⟨ys, hy, e1⟩ := hf
    simp [List.range_succ, hc, Option.bind_eq_some_iff] at hy
    obtain ⟨a0, b0, h0, L, ⟨a1, b1, h1, L2, ⟨a2, b2, h2, rfl⟩, rfl⟩, rfl⟩ := hy
    obtain ⟨a, ea, x0, wa⟩ := DataW.trod_int he h0
    obtain ⟨b, eb, x1, wb⟩ := DataW.trod_int he h1
    obtain ⟨c, ec, x2, wc⟩ := DataW.trod_int he h2
    simp only [Prod.mk.injEq] at x0 x1 x2
    obtain ⟨rfl, rfl⟩ := x0
    obtain ⟨rfl, rfl⟩ := x1
    obtain ⟨rfl, rfl⟩ := x2
    simp at ea eb ec e1
    subst ea eb ec
    exact ⟨a, b, c, rfl, e1.1.symm, e1.2, wa, wb, wc⟩
theorem shutArr2 {t e : TypeId} {a b : Int} (hu : P.underlying t = some (.array 2 e)) (he : P.underlying e = some (.int .i64)) (hc : P.cellsOf e = 1) (hC : P.cellsOf t = 2) (wa : (Lit.int .i64 a).wf = true) (wb : (Lit.int .i64 b).wf = true) :
    DataW.Trod enc P W base sp held t (.agg #[.int .i64 a, .int .i64 b]) (.agg [.lit (.int .i64 a), .lit (.int .i64 b)]) [] :=
  ⟨2, by simp [DataW.trod, hu, he, hc, hC, Value.cells, wa, wb, List.range_succ]⟩
theorem shutArr3 {t e : TypeId} {a b c : Int} (hu : P.underlying t = some (.array 3 e)) (he : P.underlying e = some (.int .i64)) (hc : P.cellsOf e = 1) (hC : P.cellsOf t = 3) (wa : (Lit.int .i64 a).wf = true) (wb : (Lit.int .i64 b).wf = true) (wc : (Lit.int .i64 c).wf = true) :
    DataW.Trod enc P W base sp held t (.agg #[.int .i64 a, .int .i64 b, .int .i64 c]) (.agg [.lit (.int .i64 a), .lit (.int .i64 b), .lit (.int .i64 c)]) [] :=
  ⟨2, by simp [DataW.trod, hu, he, hc, hC, Value.cells, wa, wb, wc, List.range_succ]⟩
end
end Go.Proofs.Ytchfhhmmjioajaa
