/- TIDES ADD UP: the statement returns true for all tables and minutes. -/
import Derived.Test.YtallnjehhoengaaSTopG
namespace Go.Proofs.Ytallnjehhoengaa
open Go.ChangeShapes Go.WideShapes Go.ChangeAt Go.RowKit
set_option linter.unusedVariables false
theorem few_12 {n : Nat} (h : fewB n = true) : n ≤ 12 := by unfold fewB at h; simp at h; omega
theorem topTidesAdd_any (ma : Int) (LA : List Wv) (A : Option Addr) (ca : Nat) (mb : Int) (LB : List Wv) (B : Option Addr) (cb : Nat) (t : Int) (w : World)
    (ha : LA.length ≤ 9223372036854775807) (hca : A = none → ca = 0) (hA : SlRows wvV 3 w A LA) (hb : LB.length ≤ 9223372036854775807) (hcb : B = none → cb = 0) (hB : SlRows wvV 3 w B LB) :
    Calls Try.prog 3 #[.agg #[.int .i64 ma, .slice A LA.length ca], .agg #[.int .i64 mb, .slice B LB.length cb], .int .i64 t] w fun e w' => e = .returned (.bool true) ∧ Below w.heap.size w w' := by
  have HRA : Hid (∀ w' : World, Below w.heap.size w w' → SlRows wvV 3 w' A LA) := Lib.hid fun w' h => hA.below h
  have HRB : Hid (∀ w' : World, Below w.heap.size w w' → SlRows wvV 3 w' B LB) := Lib.hid fun w' h => hB.below h
  have ra : Hid (LA.length = LA.length) := Lib.hid rfl
  have rb : Hid (LB.length = LB.length) := Lib.hid rfl
  cases h0 : fewB LA.length with
  | false => exact topTides_f0 ma mb t LA LB A B _ _ ca cb w ra rb ha hb HRA HRB (Lib.hid h0)
  | true =>
    have la := few_12 h0
    cases h1 : fewB LB.length with
    | false => exact topTides_f1 ma mb t LA LB A B _ _ ca cb w ra rb ha hb HRA HRB (Lib.hid h0) (Lib.hid h1)
    | true =>
      have lb := few_12 h1
      by_cases h2 : tidE ma LA = 0
      · by_cases h3 : tidE mb LB = 0
        · obtain ⟨a0, a1, a2, _⟩ := tidE_ok h2
          obtain ⟨b0, b1, b2, _⟩ := tidE_ok h3
          by_cases h4 : LA.length + LB.length ≤ 10
          · rcases inB_cases (ma + mb) (-100000) 100000 with h5 | h5
            · rcases inB_cases t 0 1000000 with h6 | h6
              · exact topTides_g ma mb t LA LB A B _ _ ca cb w ra rb (by omega) (by omega) HRA HRB (Lib.hid h0) (Lib.hid h1) (Lib.hid h2) (Lib.hid h3) (Lib.hid h5) (Lib.hid h6) (Lib.hid hca) (Lib.hid hcb)
              · exact topTides_f6 ma mb t LA LB A B _ _ ca cb w ra rb (by omega) (by omega) HRA HRB (Lib.hid h0) (Lib.hid h1) (Lib.hid h2) (Lib.hid h3) h4 a0 a1 b0 b1 (Lib.hid h5) (Lib.hid h6)
            · exact topTides_f5 ma mb t LA LB A B _ _ ca cb w ra rb (by omega) (by omega) HRA HRB (Lib.hid h0) (Lib.hid h1) (Lib.hid h2) (Lib.hid h3) h4 a0 a1 b0 b1 (Lib.hid h5)
          · exact topTides_f4 ma mb t LA LB A B _ _ ca cb w ra rb (by omega) (by omega) HRA HRB (Lib.hid h0) (Lib.hid h1) (Lib.hid h2) (Lib.hid h3) (by omega) a2 b2
        · exact topTides_f3 ma mb t LA LB A B _ _ ca cb w ra rb (by omega) (by omega) HRA HRB (Lib.hid h0) (Lib.hid h1) (Lib.hid h2) _ (Lib.hid rfl) (by simpa using h3)
      · exact topTides_f2 ma mb t LA LB A B _ _ ca cb w ra rb (by omega) (by omega) HRA HRB (Lib.hid h0) (Lib.hid h1) _ (Lib.hid rfl) (by simpa using h2)
end Go.Proofs.Ytallnjehhoengaa
