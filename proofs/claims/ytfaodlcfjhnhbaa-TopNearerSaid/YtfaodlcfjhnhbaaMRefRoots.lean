import Derived.Test.YtfaodlcfjhnhbaaMRoots
import Derived.Outline
import Derived.Maps.AppendAt
import Derived.OwnWalk
/- What the base's Root returns: the square root, rounded down. -/
namespace Go.Proofs.Ytfaodlcfjhnhbaa
open Go.ChangeShapes Go.WideShapes Go.ChangeAt Go.RowKit
set_option linter.unusedVariables false
set_option linter.unusedSimpArgs false

end Go.Proofs.Ytfaodlcfjhnhbaa

/- What the specification's root of a level returns: the same as the program's. -/
namespace Go.Proofs.Ytfaodlcfjhnhbaa
open Go.ChangeShapes Go.WideShapes Go.ChangeAt Go.RowKit
set_option linter.unusedVariables false
set_option linter.unusedSimpArgs false

theorem isq_up {n : Nat} (hn : 1 ≤ n) : isq (n - 1) + 1 = if isq n * isq n < n then isq n + 1 else isq n := by
  have h1 := isq_le n
  have h2 := isq_lt n
  split
  · rw [isq_one (n := n - 1) (r := isq n) (by omega) (by omega)]
  · have h3 : isq n * isq n = n := by omega
    have h4 := isq_pos hn
    obtain ⟨t, ht⟩ : ∃ t, isq n = t + 1 := ⟨isq n - 1, by omega⟩
    rw [ht] at h3 ⊢
    have h5 : (t + 1) * (t + 1) = t * t + 2 * t + 1 := by grind
    rw [isq_one (n := n - 1) (r := t) (by omega) (by omega)]
end Go.Proofs.Ytfaodlcfjhnhbaa

/- The specification's roots of the levels up to one. -/
namespace Go.Proofs.Ytfaodlcfjhnhbaa
open Go.ChangeShapes Go.WideShapes Go.ChangeAt Go.RowKit
set_option linter.unusedVariables false
set_option linter.unusedSimpArgs false

theorem own_below {w w' : World} {base N : Nat} {e : TypeId} {s n : Nat} {v : Value} {xs : List Value} (h : w.ownsRow base e s v n xs) (hb : Below N w w') (hN : w.heap.size ≤ N) : w'.ownsRow base e s v n xs := by
  refine ⟨h.1, ?_⟩
  rcases h.2 with hn | ⟨g, cap, cur, rfl, hg, hgg, rest⟩
  · exact .inl hn
  · refine .inr ⟨g, cap, cur, rfl, hg, ?_, rest⟩
    rw [hb.block g (Nat.lt_of_lt_of_le (Array.getElem?_eq_some_iff.1 hgg).1 hN)]
    exact hgg
theorem roots_own' {w : World} {base L : Nat} {e : TypeId} {v : Value} (h : w.ownsRow base e 2 v (L + 1) (rcs (L + 1))) : RootsAt w v L base := by
  rcases h.2 with ⟨_, h0⟩ | ⟨g, cap, cur, rfl, hb, hg, hle, hmx, _⟩
  · omega
  · refine ⟨g, cap, rfl, (Array.getElem?_eq_some_iff.1 hg).1, by omega, hle, hmx, fun k u hk => ?_⟩
    have c := World.ownsRow.cells h (g := g) rfl k u hk
    unfold Addr.add at c
    split at c
    · rename_i hz; subst hz; exact c
    · simpa using c
end Go.Proofs.Ytfaodlcfjhnhbaa
