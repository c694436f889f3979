/-
  DERIVED. GIVEN WITH THE SEED: THE CARDS: each row of YtlhogcbodgimdaaDoorRows.lean that lists a variable, with what it lists TIED to the program's text (the seventh form; the later family's looks); each row that meets fmt, with fmt's text TOLD by the authors' own Lean function (tested against real Go, not proved from fmt's source: count such statements apart). THE CARD IS WHAT COUNTS. Prove the row's statement (the work); the ties are given (YtlhogcbodgimdaaDoorTie.lean); close each card by the builder's one call (the guide's Derived/Test/ToyasCard.lean, 'card_holds'). Laid BY PROGRAM, IN A SANDBOX (cutbox-door.mjs). By AI agents, Wed Nov 11 2026. No macro, syntax, notation, axiom, sorry.
-/
import Derived.Test.YtlhogcbodgimdaaDoorRows
import GoSem.ClaimSeven
namespace Go.Proofs.YtlhogcbodgimdaaDoor
namespace Rows

/-- THE TIED CARD OF 'shotlinelaw01.GasBetween'. -/
def gasBetweenCard : Claim7 := { stood := { row := gasBetweenRow, standIns := [], harness := (true, "c431160daa425432033e5c28a644f847eed0cb62c168381434153241afd89818"), looks := true }, kinds := [], alts := [], laidByText := true, laidKinds := [.data, .data, .data, .sentinel, .sentinel], laidTests := true, laidLooks := .later }
def GasBetweenCardSaid : Prop := Claim7.holds Tryd.pinned (.plain (OpenSpec.ofChange gasBetweenSpec)) gasBetweenCard

/-- THE TIED CARD OF 'shotlinetop.TopGasesAddUp'. -/
def topGasesAddUpCard : Claim7 := { stood := { row := topGasesAddUpRow, standIns := [], harness := (true, "c431160daa425432033e5c28a644f847eed0cb62c168381434153241afd89818"), looks := true }, kinds := [], alts := [], laidByText := true, laidKinds := [.data, .data, .data, .sentinel, .sentinel], laidTests := true, laidLooks := .later }
def TopGasesAddUpCardSaid : Prop := Claim7.holds Tryd.pinned (.plain (OpenSpec.ofChange topGasesAddUpSpec)) topGasesAddUpCard

/-- THE SECOND FORM's CARD OF 'shotlinelaw01.GasBetween'. -/
def gasBetweenUptoCard : Claim7 := { stood := { row := gasBetweenUptoRow, standIns := [], harness := (true, "c431160daa425432033e5c28a644f847eed0cb62c168381434153241afd89818"), looks := true }, kinds := [], alts := [], laidByText := true, laidKinds := [.data, .data, .data, .sentinel, .sentinel], laidTests := true, laidLooks := .later }
def GasBetweenUptoCardSaid : Prop := Claim7.holds Tryd.pinned (.plain (OpenSpec.upto gasBetweenSpec)) gasBetweenUptoCard

/-- THE SECOND FORM's CARD OF 'shotlinetop.TopGasesAddUp'. -/
def topGasesAddUpUptoCard : Claim7 := { stood := { row := topGasesAddUpUptoRow, standIns := [], harness := (true, "c431160daa425432033e5c28a644f847eed0cb62c168381434153241afd89818"), looks := true }, kinds := [], alts := [], laidByText := true, laidKinds := [.data, .data, .data, .sentinel, .sentinel], laidTests := true, laidLooks := .later }
def TopGasesAddUpUptoCardSaid : Prop := Claim7.holds Tryd.pinned (.plain (OpenSpec.upto topGasesAddUpSpec)) topGasesAddUpUptoCard
end Rows
end Go.Proofs.YtlhogcbodgimdaaDoor
