import Derived.Test.YtjkhjjmmkdfjmaaMAAft
import Derived.Test.YtjkhjjmmkdfjmaaMACopyV
import Derived.Test.YtjkhjjmmkdfjmaaMAFAwakeB
import Derived.Outline
import Derived.Test.YtjkhjjmmkdfjmaaMARmEnt
import Derived.Test.YtjkhjjmmkdfjmaaMABeh2
namespace Go.Proofs.Ytjkhjjmmkdfjmaa
open Go.ChangeShapes Go.WideShapes Go.ChangeAt Go.RowKit
set_option linter.unusedVariables false
set_option linter.unusedSimpArgs false
attribute [local go_sem ↓] Go.wp_at_zero Go.wp_at_succ
theorem copyVe_n (L : List Ve) (A : Option Addr) (cap n : Nat) (w : World) (hn : Hid (n = L.length)) (hl : n ≤ 1000000) (hc : A = none → cap = 0) (hS : SlRows veV 3 w A L) : Calls Try.prog 15 #[.slice A n cap] w (CopiedVe n L w) := by
  rw [hn.out] at hl ⊢; exact copyVe_any L A cap w hl hc hS
end Go.Proofs.Ytjkhjjmmkdfjmaa

namespace Go.Proofs.Ytjkhjjmmkdfjmaa
open Go.ChangeShapes Go.WideShapes Go.ChangeAt Go.RowKit
set_option linter.unusedVariables false
set_option linter.unusedSimpArgs false
attribute [local go_sem ↓] Go.wp_at_zero Go.wp_at_succ
theorem own_belowM {w w' : World} {base N : Nat} {e : TypeId} {s n : Nat} {v : Value} {xs : List Value} (h : w.ownsRow base e s v n xs) (hb : Below N w w') (hN : w.heap.size ≤ N) : w'.ownsRow base e s v n xs := by
  refine ⟨h.1, ?_⟩
  rcases h.2 with hn | ⟨g, cap, cur, rfl, hg, hgg, rest⟩
  · exact .inl hn
  · refine .inr ⟨g, cap, cur, rfl, hg, ?_, rest⟩
    rw [hb.block g (Nat.lt_of_lt_of_le (Array.getElem?_eq_some_iff.1 hgg).1 hN)]
    exact hgg
end Go.Proofs.Ytjkhjjmmkdfjmaa
