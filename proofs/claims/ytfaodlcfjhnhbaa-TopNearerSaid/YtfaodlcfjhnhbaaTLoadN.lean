/- Loaded, CheckLoads with the length told apart. -/
import Derived.Test.YtfaodlcfjhnhbaaMMath
import Derived.Outline
namespace Go.Proofs.Ytfaodlcfjhnhbaa
open Go.ChangeShapes Go.WideShapes Go.ChangeAt Go.RowKit
set_option linter.unusedVariables false
set_option linter.unusedSimpArgs false
theorem CheckLoads_g (T : List Cm) (P : List Ld) (n : Nat) (A B : Option Addr) (cap cap' : Nat) (r : Int) (w : World) (hn : P.length = n) (hl : T.length ≤ 1000000) (hl' : n ≤ 1000000) (hr : Hid (loadsE T P = r)) (hT : SlCm w A T) (hL : SlLd w B P) :
    Calls Try.prog 24 #[.slice A T.length cap, .slice B n cap'] w fun e w' => e = .returned (.int .i64 r) ∧ Below w.heap.size w w' := by
  subst hn
  exact CheckLoads_is T P A B cap cap' r w hl hl' hr hT hL
theorem SlLd.of {w : World} {q qf : Nat} {P : List Ld} (hq : q < w.heap.size) (hL : LdAt w q qf P) : SlLd w (some ⟨q, qf, none⟩) P := Or.inr ⟨q, qf, rfl, hq, hL⟩
theorem Loaded_n (T : List Cm) (L : List Ld) (m : Nat) (A B : Option Addr) (cap cap' : Nat) (f t s o hh : Int) (n : Nat) (PE : List Ld) (w : World) (hm : L.length = m) (h1 : Hid (loadsE T L = 0)) (h2 : Hid (legE f t s o hh = 0)) (hn : n ≤ 6) (hPE : Hid (ldR f t s n o hh T L (stK s n) = PE)) (hT : SlCm w A T) (hL : SlLd w B L) :
    Calls Try.prog 9 #[.slice A T.length cap, .slice B m cap', .agg #[.int .i64 f, .int .i64 t, .int .i64 s, .int .i64 o, .int .i64 hh], .int .i64 n] w (LoadG T.length PE w) := by
  subst hm
  have hF := fit_of h1.out
  have := Loaded_good T L A B cap cap' f t s o hh n w (Lib.hid hF) h1 h2 hn hT hL
  rw [hPE.out, ← hF.len] at this
  rw [← hF.len]
  exact this
end Go.Proofs.Ytfaodlcfjhnhbaa
