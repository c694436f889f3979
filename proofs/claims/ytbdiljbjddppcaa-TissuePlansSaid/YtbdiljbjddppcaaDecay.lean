/- What tissue.decayOf returns. -/
import Derived.Test.YtbdiljbjddppcaaDecay1
import Derived.Test.YtbdiljbjddppcaaDecay2
import Derived.Outline
namespace Go.Proofs.Ytbdiljbjddppcaa
open Go.ChangeShapes Go.WideShapes Go.ChangeAt Go.RowKit
set_option linter.unusedVariables false
theorem decayOf_any (s t : Int) (L b cap : Nat) (w : World) (s0 : 0 ≤ s) (s1 : s ≤ 1000000) (t0 : 1 ≤ t) (t1 : t ≤ 100000) (hL0 : 1 ≤ L) (hL : L ≤ 40) (hlt : b < w.heap.size) (hcap : L + 1 ≤ cap) (hcap2 : cap ≤ maxLen) (hR : RtAt w b L) :
    Calls Try.prog 60 #[.int .i64 s, .int .i64 t, .slice (some ⟨b, 0, none⟩) (L + 1) cap] w fun e w' => e = .returned (.agg #[.int .i64 (decL s t L), .int .i64 (decH s t L)]) ∧ Below w.heap.size w w' := by
  rcases Int.lt_or_le 30 (s / t) with hq | hq
  · exact decayOf_2 s t L b cap w s0 s1 t0 t1 hL0 hL hlt hcap hcap2 hR hq
  · exact decayOf_1 s t L b cap w s0 s1 t0 t1 hL0 hL hlt hcap hcap2 hR hq
end Go.Proofs.Ytbdiljbjddppcaa
