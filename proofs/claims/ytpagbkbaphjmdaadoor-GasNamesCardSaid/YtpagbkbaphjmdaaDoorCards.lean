/-
  DERIVED. GIVEN WITH THE SEED: THE CARDS: each row of YtpagbkbaphjmdaaDoorRows.lean that lists a variable, with what it lists TIED to the program's text (the seventh form; the later family's looks); each row that meets fmt, with fmt's text TOLD by the authors' own Lean function (tested against real Go, not proved from fmt's source: count such statements apart). THE CARD IS WHAT COUNTS. Prove the row's statement (the work); the ties are given (YtpagbkbaphjmdaaDoorTie.lean); close each card by the builder's one call (the guide's Derived/Test/ToyasCard.lean, 'card_holds'). Laid BY PROGRAM, IN A SANDBOX (cutbox-door.mjs). By AI agents, Wed Nov 11 2026. No macro, syntax, notation, axiom, sorry.
-/
import Derived.Test.YtpagbkbaphjmdaaDoorRows
import GoSem.ClaimSeven
namespace Go.Proofs.YtpagbkbaphjmdaaDoor
namespace Rows

/-- THE TIED CARD OF 'shotlinelaw01.GasNames'. -/
def gasNamesCard : Claim7 := { stood := { row := gasNamesRow, standIns := [], harness := (true, "0c2be78cff72515aaf9654d486071b56546a6b97abb7c1dae58d8a6c73ac2b40"), looks := true }, kinds := [], alts := [], laidByText := true, laidKinds := [.data, .data, .data, .sentinel, .sentinel], laidTests := true, laidLooks := .later }
def GasNamesCardSaid : Prop := Claim7.holds Tryd.pinned (.plain (OpenSpec.ofChange gasNamesSpec)) gasNamesCard

/-- THE SECOND FORM's CARD OF 'shotlinelaw01.GasNames'. -/
def gasNamesUptoCard : Claim7 := { stood := { row := gasNamesUptoRow, standIns := [], harness := (true, "0c2be78cff72515aaf9654d486071b56546a6b97abb7c1dae58d8a6c73ac2b40"), looks := true }, kinds := [], alts := [], laidByText := true, laidKinds := [.data, .data, .data, .sentinel, .sentinel], laidTests := true, laidLooks := .later }
def GasNamesUptoCardSaid : Prop := Claim7.holds Tryd.pinned (.plain (OpenSpec.upto gasNamesSpec)) gasNamesUptoCard
end Rows
end Go.Proofs.YtpagbkbaphjmdaaDoor
