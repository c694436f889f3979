/- What the specification's reading of a text returns. -/
import Derived.Test.YtpagbkbaphjmdaaDoorRefFormat
import Derived.Test.YtpagbkbaphjmdaaDoorBaseNum
import Derived.Test.YtpagbkbaphjmdaaDoorBaseCut
import Derived.Test.YtpagbkbaphjmdaaDoorParseNone
import Derived.Test.YtpagbkbaphjmdaaDoorRefA
import Derived.Outline
namespace Go.Proofs.YtpagbkbaphjmdaaDoor
open Go.ChangeShapes Go.WideShapes Go.ChangeAt Go.RowKit
set_option linter.unusedVariables false
set_option linter.unusedSimpArgs false

theorem refFormat_is (o h : Int) (S : ByteArray) (w : World) (hg : gasE o h = 0) (hS : Hid (S = ⟨(fmtL o h).toArray⟩)) :
    Calls Tryd.prog 12 #[.agg #[.int .i64 o, .int .i64 h]] w fun e w' => e = .returned (.string S) ∧ Below w.heap.size w w' := by
  have := refFormat_any o h w hg
  rw [← hS.out] at this
  exact this
theorem refCheckGas_n (o h c : Int) (w : World) (hc : Hid (gasE o h = c)) :
    Calls Tryd.prog 9 #[.agg #[.int .i64 o, .int .i64 h]] w fun e w' => e = .returned (.int .i64 c) ∧ w.alloc (.cells #[.int .i64 o, .int .i64 h] 23) = w' := by
  have := refCheckGas_any o h w
  rw [hc.out] at this
  exact this
end Go.Proofs.YtpagbkbaphjmdaaDoor
