/-
  No cell of these rows narrows 'for every input' (looked for: loops, veiled, ifaces, maps, wideKeys, modest, calm, conditions, laid).
  DERIVED. THE GIVEN ROWS OF THIS SEAT. 6 by the template 'for every input the law returns true; each argument reads behind the call as it read before'; 0 by the template 'total and deterministic' (their statements: YtbdiljbjddppcaaTotals.lean).
  GIVEN WITH THE SEED: the statements are not yours to turn. If you find one false, say at which input.
  Laid BY PROGRAM, IN A SANDBOX (cutbox-rows.mjs): the forced cells as the released guide's own fill.sh prints them over the translation 96e7b0c3599c0ad1… (all of the seat's roots in one cut). By AI agents, Wed Nov 11 2026. No macro, syntax, notation, axiom, sorry.
-/
import Derived.Test.YtbdiljbjddppcaaChecked
import GoSem.Claim
import GoSem.ClaimJoined
import GoSem.ClaimMapViews
import Derived.JoinedTies
import Derived.KernelRfl
namespace Go.Proofs.Ytbdiljbjddppcaa
/- THE CELL 'sum', in the pinned program and in every row, IS THE sha256 OF THE DUMP (.gsa) THAT YtbdiljbjddppcaaProg.lean LOADS. Nothing in Lean hashes anything: it is a label: what it is worth is what the hold of that sum in a sandbox is worth. -/
noncomputable def Try.pinned : Pinned := { name := "ytbdiljbjddppcaa", sum := "96e7b0c3599c0ad1e546c2da0e3cd15004c249d5f48bb1200c946e76133b76d1", checked := Try.checked }
namespace Rows
def none {H : Type} : Left H := { results := [], args := [] }

/-- 'shotlinelaw03.TissueSaturates': WHATEVER THE INPUT: true; the input reads as it did. -/
def tissueSaturatesSpec : ChangeSpec := { name := "tissueSaturates", fn := fun _ => fun
  | [d1, d2, d3] => { results := [.lit (.bool true)], args := [d1, d2, d3] }
  | _ => none }
def tissueSaturatesRow : OpenClaim := { program := "ytbdiljbjddppcaa", sum := "96e7b0c3599c0ad1e546c2da0e3cd15004c249d5f48bb1200c946e76133b76d1", func := "shotline/shotlinelaw03.TissueSaturates", spec := "tissueSaturates", unfollowed := true, recurses := true, apart := false }
def TissueSaturatesSaid : Prop := tissueSaturatesRow.holds Try.pinned (OpenSpec.ofChange tissueSaturatesSpec)

/-- ITS FALSE NEIGHBOUR: 'it returns false'. Refute it at one input. -/
def tissueSaturatesWrong : ChangeSpec := { name := "tissueSaturates", fn := fun _ => fun
  | [d1, d2, d3] => { results := [.lit (.bool false)], args := [d1, d2, d3] }
  | _ => none }
def TissueSaturatesWrongFalsely : Prop := tissueSaturatesRow.holds Try.pinned (OpenSpec.ofChange tissueSaturatesWrong)

/-- 'shotlinelaw03.TissueDecays': WHATEVER THE INPUT: true; the input reads as it did. -/
def tissueDecaysSpec : ChangeSpec := { name := "tissueDecays", fn := fun _ => fun
  | [d1, d2, d3] => { results := [.lit (.bool true)], args := [d1, d2, d3] }
  | _ => none }
def tissueDecaysRow : OpenClaim := { program := "ytbdiljbjddppcaa", sum := "96e7b0c3599c0ad1e546c2da0e3cd15004c249d5f48bb1200c946e76133b76d1", func := "shotline/shotlinelaw03.TissueDecays", spec := "tissueDecays", unfollowed := true, recurses := true, apart := false }
def TissueDecaysSaid : Prop := tissueDecaysRow.holds Try.pinned (OpenSpec.ofChange tissueDecaysSpec)

/-- ITS FALSE NEIGHBOUR: 'it returns false'. Refute it at one input. -/
def tissueDecaysWrong : ChangeSpec := { name := "tissueDecays", fn := fun _ => fun
  | [d1, d2, d3] => { results := [.lit (.bool false)], args := [d1, d2, d3] }
  | _ => none }
def TissueDecaysWrongFalsely : Prop := tissueDecaysRow.holds Try.pinned (OpenSpec.ofChange tissueDecaysWrong)

/-- 'shotlinelaw03.TissueLimits': WHATEVER THE INPUT: true; the input reads as it did. -/
def tissueLimitsSpec : ChangeSpec := { name := "tissueLimits", fn := fun _ => fun
  | [d1, d2, d3] => { results := [.lit (.bool true)], args := [d1, d2, d3] }
  | _ => none }
def tissueLimitsRow : OpenClaim := { program := "ytbdiljbjddppcaa", sum := "96e7b0c3599c0ad1e546c2da0e3cd15004c249d5f48bb1200c946e76133b76d1", func := "shotline/shotlinelaw03.TissueLimits", spec := "tissueLimits", unfollowed := true, recurses := true, apart := false }
def TissueLimitsSaid : Prop := tissueLimitsRow.holds Try.pinned (OpenSpec.ofChange tissueLimitsSpec)

/-- ITS FALSE NEIGHBOUR: 'it returns false'. Refute it at one input. -/
def tissueLimitsWrong : ChangeSpec := { name := "tissueLimits", fn := fun _ => fun
  | [d1, d2, d3] => { results := [.lit (.bool false)], args := [d1, d2, d3] }
  | _ => none }
def TissueLimitsWrongFalsely : Prop := tissueLimitsRow.holds Try.pinned (OpenSpec.ofChange tissueLimitsWrong)

/-- 'shotlinelaw03.TissueCeilings': WHATEVER THE INPUT: true; the input reads as it did. -/
def tissueCeilingsSpec : ChangeSpec := { name := "tissueCeilings", fn := fun _ => fun
  | [d1, d2] => { results := [.lit (.bool true)], args := [d1, d2] }
  | _ => none }
def tissueCeilingsRow : OpenClaim := { program := "ytbdiljbjddppcaa", sum := "96e7b0c3599c0ad1e546c2da0e3cd15004c249d5f48bb1200c946e76133b76d1", func := "shotline/shotlinelaw03.TissueCeilings", spec := "tissueCeilings", unfollowed := true, recurses := true, apart := false }
def TissueCeilingsSaid : Prop := tissueCeilingsRow.holds Try.pinned (OpenSpec.ofChange tissueCeilingsSpec)

/-- ITS FALSE NEIGHBOUR: 'it returns false'. Refute it at one input. -/
def tissueCeilingsWrong : ChangeSpec := { name := "tissueCeilings", fn := fun _ => fun
  | [d1, d2] => { results := [.lit (.bool false)], args := [d1, d2] }
  | _ => none }
def TissueCeilingsWrongFalsely : Prop := tissueCeilingsRow.holds Try.pinned (OpenSpec.ofChange tissueCeilingsWrong)

/-- 'shotlinelaw03.TissuePlans': WHATEVER THE INPUT: true; the input reads as it did. -/
def tissuePlansSpec : ChangeSpec := { name := "tissuePlans", fn := fun _ => fun
  | [d] => { results := [.lit (.bool true)], args := [d] }
  | _ => none }
def tissuePlansRow : OpenClaim := { program := "ytbdiljbjddppcaa", sum := "96e7b0c3599c0ad1e546c2da0e3cd15004c249d5f48bb1200c946e76133b76d1", func := "shotline/shotlinelaw03.TissuePlans", spec := "tissuePlans", unfollowed := true, recurses := true, apart := false }
def TissuePlansSaid : Prop := tissuePlansRow.holds Try.pinned (OpenSpec.ofChange tissuePlansSpec)

/-- ITS FALSE NEIGHBOUR: 'it returns false'. Refute it at one input. -/
def tissuePlansWrong : ChangeSpec := { name := "tissuePlans", fn := fun _ => fun
  | [d] => { results := [.lit (.bool false)], args := [d] }
  | _ => none }
def TissuePlansWrongFalsely : Prop := tissuePlansRow.holds Try.pinned (OpenSpec.ofChange tissuePlansWrong)

/-- 'shotlinelaw03.TissueLoads': WHATEVER THE INPUT: true; the input reads as it did. -/
def tissueLoadsSpec : ChangeSpec := { name := "tissueLoads", fn := fun _ => fun
  | [d] => { results := [.lit (.bool true)], args := [d] }
  | _ => none }
def tissueLoadsRow : OpenClaim := { program := "ytbdiljbjddppcaa", sum := "96e7b0c3599c0ad1e546c2da0e3cd15004c249d5f48bb1200c946e76133b76d1", func := "shotline/shotlinelaw03.TissueLoads", spec := "tissueLoads", unfollowed := true, recurses := true, apart := false }
def TissueLoadsSaid : Prop := tissueLoadsRow.holds Try.pinned (OpenSpec.ofChange tissueLoadsSpec)

/-- ITS FALSE NEIGHBOUR: 'it returns false'. Refute it at one input. -/
def tissueLoadsWrong : ChangeSpec := { name := "tissueLoads", fn := fun _ => fun
  | [d] => { results := [.lit (.bool false)], args := [d] }
  | _ => none }
def TissueLoadsWrongFalsely : Prop := tissueLoadsRow.holds Try.pinned (OpenSpec.ofChange tissueLoadsWrong)

/- THE SECOND FORM. 'bulk': how many values and letters a reading holds, each counted each time it is reached (what is shared counts as often as it is met; a slice's spare places count too). A statement '..UptoSaid' is the law's where the arguments, and the package variables that the reading takes, are together of bulk at most 1048576: NARROWER than '..Said'. Prove '..Said' where nothing that the law and all that it calls make is longer than what came in: it says more and counts as full. Else prove '..UptoSaid'. A law counts once. -/
mutual
def uptoBulk {H : Type} : DataW H → Nat
  | .lit (.string bytes) => bytes.length + 1
  | .lit _ => 1
  | .nil => 1
  | .ptr d => uptoBulk d + 1
  | .slice elems spare => uptoBulkAll elems + uptoBulkAll spare + 1
  | .agg parts => uptoBulkAll parts + 1
  | .iface _ d => uptoBulk d + 1
  | .map entries => uptoBulkEntries entries + 1
  | .held _ => 1
def uptoBulkAll {H : Type} : List (DataW H) → Nat
  | [] => 0
  | d :: r => uptoBulk d + uptoBulkAll r
def uptoBulkEntries {H : Type} : List (Lit × DataW H) → Nat
  | [] => 0
  | x :: r => uptoBulkEntry x + uptoBulkEntries r
def uptoBulkEntry {H : Type} : Lit × DataW H → Nat
  | (.string bytes, d) => bytes.length + uptoBulk d + 1
  | (_, d) => uptoBulk d + 1
 end
def uptoSmall : (H : Type) → List (DataW H) → Bool := fun _ ds => decide (uptoBulkAll ds ≤ 1048576)
def OpenSpec.upto (s : _root_.Go.ChangeSpec) : _root_.Go.OpenSpec := { _root_.Go.OpenSpec.ofChange s with cond := some uptoSmall }

/-- 'shotlinelaw03.TissueSaturates', WHERE WHAT IT READS IS OF BULK AT MOST 1048576: true; the input reads as it did. -/
def tissueSaturatesUptoRow : OpenClaim := { program := "ytbdiljbjddppcaa", sum := "96e7b0c3599c0ad1e546c2da0e3cd15004c249d5f48bb1200c946e76133b76d1", func := "shotline/shotlinelaw03.TissueSaturates", spec := "tissueSaturates", unfollowed := true, recurses := true, apart := false, narrowed := true }
def TissueSaturatesUptoSaid : Prop := tissueSaturatesUptoRow.holds Try.pinned (OpenSpec.upto tissueSaturatesSpec)

/-- 'shotlinelaw03.TissueDecays', WHERE WHAT IT READS IS OF BULK AT MOST 1048576: true; the input reads as it did. -/
def tissueDecaysUptoRow : OpenClaim := { program := "ytbdiljbjddppcaa", sum := "96e7b0c3599c0ad1e546c2da0e3cd15004c249d5f48bb1200c946e76133b76d1", func := "shotline/shotlinelaw03.TissueDecays", spec := "tissueDecays", unfollowed := true, recurses := true, apart := false, narrowed := true }
def TissueDecaysUptoSaid : Prop := tissueDecaysUptoRow.holds Try.pinned (OpenSpec.upto tissueDecaysSpec)

/-- 'shotlinelaw03.TissueLimits', WHERE WHAT IT READS IS OF BULK AT MOST 1048576: true; the input reads as it did. -/
def tissueLimitsUptoRow : OpenClaim := { program := "ytbdiljbjddppcaa", sum := "96e7b0c3599c0ad1e546c2da0e3cd15004c249d5f48bb1200c946e76133b76d1", func := "shotline/shotlinelaw03.TissueLimits", spec := "tissueLimits", unfollowed := true, recurses := true, apart := false, narrowed := true }
def TissueLimitsUptoSaid : Prop := tissueLimitsUptoRow.holds Try.pinned (OpenSpec.upto tissueLimitsSpec)

/-- 'shotlinelaw03.TissueCeilings', WHERE WHAT IT READS IS OF BULK AT MOST 1048576: true; the input reads as it did. -/
def tissueCeilingsUptoRow : OpenClaim := { program := "ytbdiljbjddppcaa", sum := "96e7b0c3599c0ad1e546c2da0e3cd15004c249d5f48bb1200c946e76133b76d1", func := "shotline/shotlinelaw03.TissueCeilings", spec := "tissueCeilings", unfollowed := true, recurses := true, apart := false, narrowed := true }
def TissueCeilingsUptoSaid : Prop := tissueCeilingsUptoRow.holds Try.pinned (OpenSpec.upto tissueCeilingsSpec)

/-- 'shotlinelaw03.TissuePlans', WHERE WHAT IT READS IS OF BULK AT MOST 1048576: true; the input reads as it did. -/
def tissuePlansUptoRow : OpenClaim := { program := "ytbdiljbjddppcaa", sum := "96e7b0c3599c0ad1e546c2da0e3cd15004c249d5f48bb1200c946e76133b76d1", func := "shotline/shotlinelaw03.TissuePlans", spec := "tissuePlans", unfollowed := true, recurses := true, apart := false, narrowed := true }
def TissuePlansUptoSaid : Prop := tissuePlansUptoRow.holds Try.pinned (OpenSpec.upto tissuePlansSpec)

/-- 'shotlinelaw03.TissueLoads', WHERE WHAT IT READS IS OF BULK AT MOST 1048576: true; the input reads as it did. -/
def tissueLoadsUptoRow : OpenClaim := { program := "ytbdiljbjddppcaa", sum := "96e7b0c3599c0ad1e546c2da0e3cd15004c249d5f48bb1200c946e76133b76d1", func := "shotline/shotlinelaw03.TissueLoads", spec := "tissueLoads", unfollowed := true, recurses := true, apart := false, narrowed := true }
def TissueLoadsUptoSaid : Prop := tissueLoadsUptoRow.holds Try.pinned (OpenSpec.upto tissueLoadsSpec)

end Rows
end Go.Proofs.Ytbdiljbjddppcaa
