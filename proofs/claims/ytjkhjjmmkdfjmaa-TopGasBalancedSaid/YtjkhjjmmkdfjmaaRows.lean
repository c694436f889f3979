/-
  No cell of these rows narrows 'for every input' (looked for: loops, veiled, ifaces, maps, wideKeys, modest, calm, conditions, laid).
  DERIVED. THE GIVEN ROWS OF THIS SEAT. 9 by the template 'for every input the law returns true; each argument reads behind the call as it read before'; 0 by the template 'total and deterministic' (their statements: YtjkhjjmmkdfjmaaTotals.lean).
  GIVEN WITH THE SEED: the statements are not yours to turn. If you find one false, say at which input.
  Laid BY PROGRAM, IN A SANDBOX (cutbox-rows.mjs): the forced cells as the released guide's own fill.sh prints them over the translation 3d78a5ce67cb90a5… (all of the seat's roots in one cut). By AI agents, Wed Nov 11 2026. No macro, syntax, notation, axiom, sorry.
-/
import Derived.Test.YtjkhjjmmkdfjmaaChecked
import GoSem.Claim
import GoSem.ClaimJoined
import GoSem.ClaimMapViews
import Derived.JoinedTies
import Derived.KernelRfl
namespace Go.Proofs.Ytjkhjjmmkdfjmaa
/- THE CELL 'sum', in the pinned program and in every row, IS THE sha256 OF THE DUMP (.gsa) THAT YtjkhjjmmkdfjmaaProg.lean LOADS. Nothing in Lean hashes anything: it is a label: what it is worth is what the hold of that sum in a sandbox is worth. -/
noncomputable def Try.pinned : Pinned := { name := "ytjkhjjmmkdfjmaa", sum := "3d78a5ce67cb90a559774a47f04a726c7096415a6cc34e0a45d6c11de16643e1", checked := Try.checked }
namespace Rows
def none {H : Type} : Left H := { results := [], args := [] }

/-- 'shotlinelaw06.MixFills': WHATEVER THE INPUT: true; the input reads as it did. -/
def mixFillsSpec : ChangeSpec := { name := "mixFills", fn := fun _ => fun
  | [d1, d2] => { results := [.lit (.bool true)], args := [d1, d2] }
  | _ => none }
def mixFillsRow : OpenClaim := { program := "ytjkhjjmmkdfjmaa", sum := "3d78a5ce67cb90a559774a47f04a726c7096415a6cc34e0a45d6c11de16643e1", func := "shotline/shotlinelaw06.MixFills", spec := "mixFills", unfollowed := true, recurses := true, apart := false }
def MixFillsSaid : Prop := mixFillsRow.holds Try.pinned (OpenSpec.ofChange mixFillsSpec)

/-- ITS FALSE NEIGHBOUR: 'it returns false'. Refute it at one input. -/
def mixFillsWrong : ChangeSpec := { name := "mixFills", fn := fun _ => fun
  | [d1, d2] => { results := [.lit (.bool false)], args := [d1, d2] }
  | _ => none }
def MixFillsWrongFalsely : Prop := mixFillsRow.holds Try.pinned (OpenSpec.ofChange mixFillsWrong)

/-- 'shotlinelaw06.MixAdds': WHATEVER THE INPUT: true; the input reads as it did. -/
def mixAddsSpec : ChangeSpec := { name := "mixAdds", fn := fun _ => fun
  | [d1, d2, d3] => { results := [.lit (.bool true)], args := [d1, d2, d3] }
  | _ => none }
def mixAddsRow : OpenClaim := { program := "ytjkhjjmmkdfjmaa", sum := "3d78a5ce67cb90a559774a47f04a726c7096415a6cc34e0a45d6c11de16643e1", func := "shotline/shotlinelaw06.MixAdds", spec := "mixAdds", unfollowed := true, recurses := true, apart := false }
def MixAddsSaid : Prop := mixAddsRow.holds Try.pinned (OpenSpec.ofChange mixAddsSpec)

/-- ITS FALSE NEIGHBOUR: 'it returns false'. Refute it at one input. -/
def mixAddsWrong : ChangeSpec := { name := "mixAdds", fn := fun _ => fun
  | [d1, d2, d3] => { results := [.lit (.bool false)], args := [d1, d2, d3] }
  | _ => none }
def MixAddsWrongFalsely : Prop := mixAddsRow.holds Try.pinned (OpenSpec.ofChange mixAddsWrong)

/-- 'shotlinelaw06.MixContents': WHATEVER THE INPUT: true; the input reads as it did. -/
def mixContentsSpec : ChangeSpec := { name := "mixContents", fn := fun _ => fun
  | [d1, d2, d3] => { results := [.lit (.bool true)], args := [d1, d2, d3] }
  | _ => none }
def mixContentsRow : OpenClaim := { program := "ytjkhjjmmkdfjmaa", sum := "3d78a5ce67cb90a559774a47f04a726c7096415a6cc34e0a45d6c11de16643e1", func := "shotline/shotlinelaw06.MixContents", spec := "mixContents", unfollowed := true, recurses := true, apart := false }
def MixContentsSaid : Prop := mixContentsRow.holds Try.pinned (OpenSpec.ofChange mixContentsSpec)

/-- ITS FALSE NEIGHBOUR: 'it returns false'. Refute it at one input. -/
def mixContentsWrong : ChangeSpec := { name := "mixContents", fn := fun _ => fun
  | [d1, d2, d3] => { results := [.lit (.bool false)], args := [d1, d2, d3] }
  | _ => none }
def MixContentsWrongFalsely : Prop := mixContentsRow.holds Try.pinned (OpenSpec.ofChange mixContentsWrong)

/-- 'shotlinelaw06.MixBalance': WHATEVER THE INPUT: true; the input reads as it did. -/
def mixBalanceSpec : ChangeSpec := { name := "mixBalance", fn := fun _ => fun
  | [d1, d2] => { results := [.lit (.bool true)], args := [d1, d2] }
  | _ => none }
def mixBalanceRow : OpenClaim := { program := "ytjkhjjmmkdfjmaa", sum := "3d78a5ce67cb90a559774a47f04a726c7096415a6cc34e0a45d6c11de16643e1", func := "shotline/shotlinelaw06.MixBalance", spec := "mixBalance", unfollowed := true, recurses := true, apart := false }
def MixBalanceSaid : Prop := mixBalanceRow.holds Try.pinned (OpenSpec.ofChange mixBalanceSpec)

/-- ITS FALSE NEIGHBOUR: 'it returns false'. Refute it at one input. -/
def mixBalanceWrong : ChangeSpec := { name := "mixBalance", fn := fun _ => fun
  | [d1, d2] => { results := [.lit (.bool false)], args := [d1, d2] }
  | _ => none }
def MixBalanceWrongFalsely : Prop := mixBalanceRow.holds Try.pinned (OpenSpec.ofChange mixBalanceWrong)

/-- 'shotlinelaw06.MixShares': WHATEVER THE INPUT: true; the input reads as it did. -/
def mixSharesSpec : ChangeSpec := { name := "mixShares", fn := fun _ => fun
  | [d1, d2] => { results := [.lit (.bool true)], args := [d1, d2] }
  | _ => none }
def mixSharesRow : OpenClaim := { program := "ytjkhjjmmkdfjmaa", sum := "3d78a5ce67cb90a559774a47f04a726c7096415a6cc34e0a45d6c11de16643e1", func := "shotline/shotlinelaw06.MixShares", spec := "mixShares", unfollowed := true, recurses := true, apart := false }
def MixSharesSaid : Prop := mixSharesRow.holds Try.pinned (OpenSpec.ofChange mixSharesSpec)

/-- ITS FALSE NEIGHBOUR: 'it returns false'. Refute it at one input. -/
def mixSharesWrong : ChangeSpec := { name := "mixShares", fn := fun _ => fun
  | [d1, d2] => { results := [.lit (.bool false)], args := [d1, d2] }
  | _ => none }
def MixSharesWrongFalsely : Prop := mixSharesRow.holds Try.pinned (OpenSpec.ofChange mixSharesWrong)

/-- 'shotlinelaw06.MixPartials': WHATEVER THE INPUT: true; the input reads as it did. -/
def mixPartialsSpec : ChangeSpec := { name := "mixPartials", fn := fun _ => fun
  | [d1, d2] => { results := [.lit (.bool true)], args := [d1, d2] }
  | _ => none }
def mixPartialsRow : OpenClaim := { program := "ytjkhjjmmkdfjmaa", sum := "3d78a5ce67cb90a559774a47f04a726c7096415a6cc34e0a45d6c11de16643e1", func := "shotline/shotlinelaw06.MixPartials", spec := "mixPartials", unfollowed := true, recurses := true, apart := false }
def MixPartialsSaid : Prop := mixPartialsRow.holds Try.pinned (OpenSpec.ofChange mixPartialsSpec)

/-- ITS FALSE NEIGHBOUR: 'it returns false'. Refute it at one input. -/
def mixPartialsWrong : ChangeSpec := { name := "mixPartials", fn := fun _ => fun
  | [d1, d2] => { results := [.lit (.bool false)], args := [d1, d2] }
  | _ => none }
def MixPartialsWrongFalsely : Prop := mixPartialsRow.holds Try.pinned (OpenSpec.ofChange mixPartialsWrong)

/-- 'shotlinelaw06.MixMatches': WHATEVER THE INPUT: true; the input reads as it did. -/
def mixMatchesSpec : ChangeSpec := { name := "mixMatches", fn := fun _ => fun
  | [d1, d2, d3] => { results := [.lit (.bool true)], args := [d1, d2, d3] }
  | _ => none }
def mixMatchesRow : OpenClaim := { program := "ytjkhjjmmkdfjmaa", sum := "3d78a5ce67cb90a559774a47f04a726c7096415a6cc34e0a45d6c11de16643e1", func := "shotline/shotlinelaw06.MixMatches", spec := "mixMatches", unfollowed := true, recurses := true, apart := false }
def MixMatchesSaid : Prop := mixMatchesRow.holds Try.pinned (OpenSpec.ofChange mixMatchesSpec)

/-- ITS FALSE NEIGHBOUR: 'it returns false'. Refute it at one input. -/
def mixMatchesWrong : ChangeSpec := { name := "mixMatches", fn := fun _ => fun
  | [d1, d2, d3] => { results := [.lit (.bool false)], args := [d1, d2, d3] }
  | _ => none }
def MixMatchesWrongFalsely : Prop := mixMatchesRow.holds Try.pinned (OpenSpec.ofChange mixMatchesWrong)

/-- 'shotlinelaw06.MixFactors': WHATEVER THE INPUT: true; the input reads as it did. -/
def mixFactorsSpec : ChangeSpec := { name := "mixFactors", fn := fun _ => fun
  | [d1, d2, d3] => { results := [.lit (.bool true)], args := [d1, d2, d3] }
  | _ => none }
def mixFactorsRow : OpenClaim := { program := "ytjkhjjmmkdfjmaa", sum := "3d78a5ce67cb90a559774a47f04a726c7096415a6cc34e0a45d6c11de16643e1", func := "shotline/shotlinelaw06.MixFactors", spec := "mixFactors", unfollowed := true, recurses := true, apart := false }
def MixFactorsSaid : Prop := mixFactorsRow.holds Try.pinned (OpenSpec.ofChange mixFactorsSpec)

/-- ITS FALSE NEIGHBOUR: 'it returns false'. Refute it at one input. -/
def mixFactorsWrong : ChangeSpec := { name := "mixFactors", fn := fun _ => fun
  | [d1, d2, d3] => { results := [.lit (.bool false)], args := [d1, d2, d3] }
  | _ => none }
def MixFactorsWrongFalsely : Prop := mixFactorsRow.holds Try.pinned (OpenSpec.ofChange mixFactorsWrong)

/-- 'shotlinetop.TopGasBalanced': WHATEVER THE INPUT: true; the input reads as it did. -/
def topGasBalancedSpec : ChangeSpec := { name := "topGasBalanced", fn := fun _ => fun
  | [d1, d2, d3] => { results := [.lit (.bool true)], args := [d1, d2, d3] }
  | _ => none }
def topGasBalancedRow : OpenClaim := { program := "ytjkhjjmmkdfjmaa", sum := "3d78a5ce67cb90a559774a47f04a726c7096415a6cc34e0a45d6c11de16643e1", func := "shotline/shotlinetop.TopGasBalanced", spec := "topGasBalanced", unfollowed := true, recurses := true, apart := false }
def TopGasBalancedSaid : Prop := topGasBalancedRow.holds Try.pinned (OpenSpec.ofChange topGasBalancedSpec)

/-- ITS FALSE NEIGHBOUR: 'it returns false'. Refute it at one input. -/
def topGasBalancedWrong : ChangeSpec := { name := "topGasBalanced", fn := fun _ => fun
  | [d1, d2, d3] => { results := [.lit (.bool false)], args := [d1, d2, d3] }
  | _ => none }
def TopGasBalancedWrongFalsely : Prop := topGasBalancedRow.holds Try.pinned (OpenSpec.ofChange topGasBalancedWrong)

/- THE SECOND FORM. 'bulk': how many values and letters a reading holds, each counted each time it is reached (what is shared counts as often as it is met; a slice's spare places count too). A statement '..UptoSaid' is the law's where the arguments, and the package variables that the reading takes, are together of bulk at most 1048576: NARROWER than '..Said'. Prove '..Said' where nothing that the law and all that it calls make is longer than what came in: it says more and counts as full. Else prove '..UptoSaid'. A law counts once. -/
mutual
def uptoBulk {H : Type} : DataW H → Nat
  | .lit (.string bytes) => bytes.length + 1
  | .lit _ => 1
  | .nil => 1
  | .ptr d => uptoBulk d + 1
  | .slice elems spare => uptoBulkAll elems + uptoBulkAll spare + 1
  | .agg parts => uptoBulkAll parts + 1
  | .iface _ d => uptoBulk d + 1
  | .map entries => uptoBulkEntries entries + 1
  | .held _ => 1
def uptoBulkAll {H : Type} : List (DataW H) → Nat
  | [] => 0
  | d :: r => uptoBulk d + uptoBulkAll r
def uptoBulkEntries {H : Type} : List (Lit × DataW H) → Nat
  | [] => 0
  | x :: r => uptoBulkEntry x + uptoBulkEntries r
def uptoBulkEntry {H : Type} : Lit × DataW H → Nat
  | (.string bytes, d) => bytes.length + uptoBulk d + 1
  | (_, d) => uptoBulk d + 1
 end
def uptoSmall : (H : Type) → List (DataW H) → Bool := fun _ ds => decide (uptoBulkAll ds ≤ 1048576)
def OpenSpec.upto (s : _root_.Go.ChangeSpec) : _root_.Go.OpenSpec := { _root_.Go.OpenSpec.ofChange s with cond := some uptoSmall }

/-- 'shotlinelaw06.MixFills', WHERE WHAT IT READS IS OF BULK AT MOST 1048576: true; the input reads as it did. -/
def mixFillsUptoRow : OpenClaim := { program := "ytjkhjjmmkdfjmaa", sum := "3d78a5ce67cb90a559774a47f04a726c7096415a6cc34e0a45d6c11de16643e1", func := "shotline/shotlinelaw06.MixFills", spec := "mixFills", unfollowed := true, recurses := true, apart := false, narrowed := true }
def MixFillsUptoSaid : Prop := mixFillsUptoRow.holds Try.pinned (OpenSpec.upto mixFillsSpec)

/-- 'shotlinelaw06.MixAdds', WHERE WHAT IT READS IS OF BULK AT MOST 1048576: true; the input reads as it did. -/
def mixAddsUptoRow : OpenClaim := { program := "ytjkhjjmmkdfjmaa", sum := "3d78a5ce67cb90a559774a47f04a726c7096415a6cc34e0a45d6c11de16643e1", func := "shotline/shotlinelaw06.MixAdds", spec := "mixAdds", unfollowed := true, recurses := true, apart := false, narrowed := true }
def MixAddsUptoSaid : Prop := mixAddsUptoRow.holds Try.pinned (OpenSpec.upto mixAddsSpec)

/-- 'shotlinelaw06.MixContents', WHERE WHAT IT READS IS OF BULK AT MOST 1048576: true; the input reads as it did. -/
def mixContentsUptoRow : OpenClaim := { program := "ytjkhjjmmkdfjmaa", sum := "3d78a5ce67cb90a559774a47f04a726c7096415a6cc34e0a45d6c11de16643e1", func := "shotline/shotlinelaw06.MixContents", spec := "mixContents", unfollowed := true, recurses := true, apart := false, narrowed := true }
def MixContentsUptoSaid : Prop := mixContentsUptoRow.holds Try.pinned (OpenSpec.upto mixContentsSpec)

/-- 'shotlinelaw06.MixBalance', WHERE WHAT IT READS IS OF BULK AT MOST 1048576: true; the input reads as it did. -/
def mixBalanceUptoRow : OpenClaim := { program := "ytjkhjjmmkdfjmaa", sum := "3d78a5ce67cb90a559774a47f04a726c7096415a6cc34e0a45d6c11de16643e1", func := "shotline/shotlinelaw06.MixBalance", spec := "mixBalance", unfollowed := true, recurses := true, apart := false, narrowed := true }
def MixBalanceUptoSaid : Prop := mixBalanceUptoRow.holds Try.pinned (OpenSpec.upto mixBalanceSpec)

/-- 'shotlinelaw06.MixShares', WHERE WHAT IT READS IS OF BULK AT MOST 1048576: true; the input reads as it did. -/
def mixSharesUptoRow : OpenClaim := { program := "ytjkhjjmmkdfjmaa", sum := "3d78a5ce67cb90a559774a47f04a726c7096415a6cc34e0a45d6c11de16643e1", func := "shotline/shotlinelaw06.MixShares", spec := "mixShares", unfollowed := true, recurses := true, apart := false, narrowed := true }
def MixSharesUptoSaid : Prop := mixSharesUptoRow.holds Try.pinned (OpenSpec.upto mixSharesSpec)

/-- 'shotlinelaw06.MixPartials', WHERE WHAT IT READS IS OF BULK AT MOST 1048576: true; the input reads as it did. -/
def mixPartialsUptoRow : OpenClaim := { program := "ytjkhjjmmkdfjmaa", sum := "3d78a5ce67cb90a559774a47f04a726c7096415a6cc34e0a45d6c11de16643e1", func := "shotline/shotlinelaw06.MixPartials", spec := "mixPartials", unfollowed := true, recurses := true, apart := false, narrowed := true }
def MixPartialsUptoSaid : Prop := mixPartialsUptoRow.holds Try.pinned (OpenSpec.upto mixPartialsSpec)

/-- 'shotlinelaw06.MixMatches', WHERE WHAT IT READS IS OF BULK AT MOST 1048576: true; the input reads as it did. -/
def mixMatchesUptoRow : OpenClaim := { program := "ytjkhjjmmkdfjmaa", sum := "3d78a5ce67cb90a559774a47f04a726c7096415a6cc34e0a45d6c11de16643e1", func := "shotline/shotlinelaw06.MixMatches", spec := "mixMatches", unfollowed := true, recurses := true, apart := false, narrowed := true }
def MixMatchesUptoSaid : Prop := mixMatchesUptoRow.holds Try.pinned (OpenSpec.upto mixMatchesSpec)

/-- 'shotlinelaw06.MixFactors', WHERE WHAT IT READS IS OF BULK AT MOST 1048576: true; the input reads as it did. -/
def mixFactorsUptoRow : OpenClaim := { program := "ytjkhjjmmkdfjmaa", sum := "3d78a5ce67cb90a559774a47f04a726c7096415a6cc34e0a45d6c11de16643e1", func := "shotline/shotlinelaw06.MixFactors", spec := "mixFactors", unfollowed := true, recurses := true, apart := false, narrowed := true }
def MixFactorsUptoSaid : Prop := mixFactorsUptoRow.holds Try.pinned (OpenSpec.upto mixFactorsSpec)

/-- 'shotlinetop.TopGasBalanced', WHERE WHAT IT READS IS OF BULK AT MOST 1048576: true; the input reads as it did. -/
def topGasBalancedUptoRow : OpenClaim := { program := "ytjkhjjmmkdfjmaa", sum := "3d78a5ce67cb90a559774a47f04a726c7096415a6cc34e0a45d6c11de16643e1", func := "shotline/shotlinetop.TopGasBalanced", spec := "topGasBalanced", unfollowed := true, recurses := true, apart := false, narrowed := true }
def TopGasBalancedUptoSaid : Prop := topGasBalancedUptoRow.holds Try.pinned (OpenSpec.upto topGasBalancedSpec)

end Rows
end Go.Proofs.Ytjkhjjmmkdfjmaa
