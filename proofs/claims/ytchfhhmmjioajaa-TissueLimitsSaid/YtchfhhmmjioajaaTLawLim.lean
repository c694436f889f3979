/- The walk of shotlinelaw03.TissueLimits: it returns true. -/
import Derived.Test.YtchfhhmmjioajaaTLawLimP
import Derived.Test.YtchfhhmmjioajaaTLawLimF
import Derived.Test.YtchfhhmmjioajaaTLawLimG
import Derived.Outline
namespace Go.Proofs.Ytchfhhmmjioajaa
open Go.ChangeShapes Go.WideShapes Go.ChangeAt Go.RowKit
set_option linter.unusedVariables false
set_option linter.unusedSimpArgs false
attribute [local go_sem ↓] Go.wp_at_zero Go.wp_at_succ
theorem tissueLimits_any (T : List Cm) (L : List Ld) (A B : Option Addr) (cap cap' : Nat) (fr tz se o hh fi n h b s p f : Int) (w : World) (hl : T.length ≤ 9223372036854775807) (hl' : L.length ≤ 9223372036854775807) (hA : A = none → cap = 0) (hB : B = none → cap' = 0) (hT : SlCm w A T) (hL : SlLd w B L) :
    Calls Try.prog 10 #[.agg #[.slice A T.length cap, .slice B L.length cap', .int .i64 fr, .int .i64 tz, .int .i64 se, .int .i64 o, .int .i64 hh, .int .i64 fi], .agg #[.int .i64 n, .int .i64 h, .int .i64 b, .int .i64 s], .agg #[.int .i64 p, .int .i64 f]] w fun e w' => e = .returned (.bool true) ∧ Below w.heap.size w w' := by
  have HT := Lib.hid hT
  have HL := Lib.hid hL
  cases hli : (fewB T.length && decide (L.length ≤ 19)) with
  | false => exact tissueLimits_dark T L A B cap cap' fr tz se o hh fi n h b s p f w hl hl' hli
  | true =>
    rcases inB_cases p 400 31100 with hp | hp
    · rcases inB_cases f 0 1000 with hf | hf
      · rcases cmpE_02 n h b s with hc | hc
        · exact tissueLimits_G0 T L A B cap cap' fr tz se o hh fi n h b s p f w hl hl' hA hB HT HL hli hp hf hc
        · exact tissueLimits_G2 T L A B cap cap' fr tz se o hh fi n h b s p f w hl hl' hA hB HT HL hli hp hf hc
      · rcases cmpE_02 n h b s with hc | hc
        · exact tissueLimits_F0 T L A B cap cap' fr tz se o hh fi n h b s p f w hl hl' hA hB HT HL hli hp hf hc
        · exact tissueLimits_F2 T L A B cap cap' fr tz se o hh fi n h b s p f w hl hl' hA hB HT HL hli hp hf hc
    · rcases cmpE_02 n h b s with hc | hc
      · exact tissueLimits_P0 T L A B cap cap' fr tz se o hh fi n h b s p f w hl hl' hA hB HT HL hli hp hc
      · exact tissueLimits_P2 T L A B cap cap' fr tz se o hh fi n h b s p f w hl hl' hA hB HT HL hli hp hc
end Go.Proofs.Ytchfhhmmjioajaa
