import Derived.Test.YtchfhhmmjioajaaZLTLoadN
import Derived.Test.YtchfhhmmjioajaaZLTRefLoaded
import Derived.Test.YtchfhhmmjioajaaZLTRefSat
import Derived.Outline
namespace Go.Proofs.Ytchfhhmmjioajaa
open Go.ChangeShapes Go.WideShapes Go.ChangeAt Go.RowKit
set_option linter.unusedVariables false
set_option linter.unusedSimpArgs false
theorem refSame_g (P : List Ld) (n : Nat) (A B : Option Addr) (cap cap' : Nat) (w : World) (hn : P.length = n) (hl : n ≤ 1000) (hP : SlLd w A P) (hR : SlLd w B P) :
    Calls Try.prog 30 #[.slice A n cap, .slice B n cap'] w fun e w' => e = .returned (.bool true) ∧ Below w.heap.size w w' := by
  subst hn
  exact refSame_t P A B cap cap' w hl hP hR
theorem refLoaded_n (T : List Cm) (L : List Ld) (m : Nat) (A B : Option Addr) (cap cap' : Nat) (f t s o hh : Int) (n : Nat) (PE : List Ld) (w : World) (hm : L.length = m) (h1 : Hid (loadsE T L = 0)) (h2 : Hid (legE f t s o hh = 0)) (hn : n ≤ 6) (hPE : Hid (ldR f t s n o hh T L (stK s n) = PE)) (hT : SlCm w A T) (hL : SlLd w B L) :
    Calls Try.prog 37 #[.slice A T.length cap, .slice B m cap', .agg #[.int .i64 f, .int .i64 t, .int .i64 s, .int .i64 o, .int .i64 hh], .int .i64 n] w (LoadedL T.length PE w) := by
  subst hm
  have hF := fit_of h1.out
  obtain ⟨a, b, c, d⟩ := leg_of h2.out
  obtain ⟨o0, o1, h0, h1', oh⟩ := gasE_z d
  have := refLoaded_any T L A B cap cap' f t s o hh n w hF.one hF.most hF.len (tb_of hF).2.2 (ldok_of hF) a.1 a.2 b.1 b.2 c.1 c.2 o0 h0 oh hn hT hL
  rw [hPE.out, ← hF.len] at this
  rw [← hF.len]
  exact this
end Go.Proofs.Ytchfhhmmjioajaa
