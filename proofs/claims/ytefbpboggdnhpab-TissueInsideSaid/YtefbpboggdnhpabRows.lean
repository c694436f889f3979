/-
  No cell of these rows narrows 'for every input' (looked for: loops, veiled, ifaces, maps, wideKeys, modest, calm, conditions, laid).
  DERIVED. THE GIVEN ROWS OF THIS SEAT. 4 by the template 'for every input the law returns true; each argument reads behind the call as it read before'; 0 by the template 'total and deterministic' (their statements: YtefbpboggdnhpabTotals.lean).
  GIVEN WITH THE SEED: the statements are not yours to turn. If you find one false, say at which input.
  Laid BY PROGRAM, IN A SANDBOX (cutbox-rows.mjs): the forced cells as the released guide's own fill.sh prints them over the translation 66fcf23a26c757b2… (all of the seat's roots in one cut). By AI agents, Wed Nov 11 2026. No macro, syntax, notation, axiom, sorry.
-/
import Derived.Test.YtefbpboggdnhpabChecked
import GoSem.Claim
import GoSem.ClaimJoined
import GoSem.ClaimMapViews
import Derived.JoinedTies
import Derived.KernelRfl
namespace Go.Proofs.Ytefbpboggdnhpab
/- THE CELL 'sum', in the pinned program and in every row, IS THE sha256 OF THE DUMP (.gsa) THAT YtefbpboggdnhpabProg.lean LOADS. Nothing in Lean hashes anything: it is a label: what it is worth is what the hold of that sum in a sandbox is worth. -/
noncomputable def Try.pinned : Pinned := { name := "ytefbpboggdnhpab", sum := "66fcf23a26c757b28f66e1a7a3c427db53557a573475f2f5981b3719c76b2c2c", checked := Try.checked }
namespace Rows
def none {H : Type} : Left H := { results := [], args := [] }

/-- 'shotlinelaw03.TissueLimits': WHATEVER THE INPUT: true; the input reads as it did. -/
def tissueLimitsSpec : ChangeSpec := { name := "tissueLimits", fn := fun _ => fun
  | [d1, d2, d3] => { results := [.lit (.bool true)], args := [d1, d2, d3] }
  | _ => none }
def tissueLimitsRow : OpenClaim := { program := "ytefbpboggdnhpab", sum := "66fcf23a26c757b28f66e1a7a3c427db53557a573475f2f5981b3719c76b2c2c", func := "shotline/shotlinelaw03.TissueLimits", spec := "tissueLimits", unfollowed := true, recurses := true, apart := false }
def TissueLimitsSaid : Prop := tissueLimitsRow.holds Try.pinned (OpenSpec.ofChange tissueLimitsSpec)

/-- ITS FALSE NEIGHBOUR: 'it returns false'. Refute it at one input. -/
def tissueLimitsWrong : ChangeSpec := { name := "tissueLimits", fn := fun _ => fun
  | [d1, d2, d3] => { results := [.lit (.bool false)], args := [d1, d2, d3] }
  | _ => none }
def TissueLimitsWrongFalsely : Prop := tissueLimitsRow.holds Try.pinned (OpenSpec.ofChange tissueLimitsWrong)

/-- 'shotlinelaw03.TissueCeilings': WHATEVER THE INPUT: true; the input reads as it did. -/
def tissueCeilingsSpec : ChangeSpec := { name := "tissueCeilings", fn := fun _ => fun
  | [d1, d2] => { results := [.lit (.bool true)], args := [d1, d2] }
  | _ => none }
def tissueCeilingsRow : OpenClaim := { program := "ytefbpboggdnhpab", sum := "66fcf23a26c757b28f66e1a7a3c427db53557a573475f2f5981b3719c76b2c2c", func := "shotline/shotlinelaw03.TissueCeilings", spec := "tissueCeilings", unfollowed := true, recurses := true, apart := false }
def TissueCeilingsSaid : Prop := tissueCeilingsRow.holds Try.pinned (OpenSpec.ofChange tissueCeilingsSpec)

/-- ITS FALSE NEIGHBOUR: 'it returns false'. Refute it at one input. -/
def tissueCeilingsWrong : ChangeSpec := { name := "tissueCeilings", fn := fun _ => fun
  | [d1, d2] => { results := [.lit (.bool false)], args := [d1, d2] }
  | _ => none }
def TissueCeilingsWrongFalsely : Prop := tissueCeilingsRow.holds Try.pinned (OpenSpec.ofChange tissueCeilingsWrong)

/-- 'shotlinelaw03.TissueInside': WHATEVER THE INPUT: true; the input reads as it did. -/
def tissueInsideSpec : ChangeSpec := { name := "tissueInside", fn := fun _ => fun
  | [d1, d2] => { results := [.lit (.bool true)], args := [d1, d2] }
  | _ => none }
def tissueInsideRow : OpenClaim := { program := "ytefbpboggdnhpab", sum := "66fcf23a26c757b28f66e1a7a3c427db53557a573475f2f5981b3719c76b2c2c", func := "shotline/shotlinelaw03.TissueInside", spec := "tissueInside", unfollowed := true, recurses := true, apart := false }
def TissueInsideSaid : Prop := tissueInsideRow.holds Try.pinned (OpenSpec.ofChange tissueInsideSpec)

/-- ITS FALSE NEIGHBOUR: 'it returns false'. Refute it at one input. -/
def tissueInsideWrong : ChangeSpec := { name := "tissueInside", fn := fun _ => fun
  | [d1, d2] => { results := [.lit (.bool false)], args := [d1, d2] }
  | _ => none }
def TissueInsideWrongFalsely : Prop := tissueInsideRow.holds Try.pinned (OpenSpec.ofChange tissueInsideWrong)

/-- 'shotlinelaw03.TissuePlans': WHATEVER THE INPUT: true; the input reads as it did. -/
def tissuePlansSpec : ChangeSpec := { name := "tissuePlans", fn := fun _ => fun
  | [d] => { results := [.lit (.bool true)], args := [d] }
  | _ => none }
def tissuePlansRow : OpenClaim := { program := "ytefbpboggdnhpab", sum := "66fcf23a26c757b28f66e1a7a3c427db53557a573475f2f5981b3719c76b2c2c", func := "shotline/shotlinelaw03.TissuePlans", spec := "tissuePlans", unfollowed := true, recurses := true, apart := false }
def TissuePlansSaid : Prop := tissuePlansRow.holds Try.pinned (OpenSpec.ofChange tissuePlansSpec)

/-- ITS FALSE NEIGHBOUR: 'it returns false'. Refute it at one input. -/
def tissuePlansWrong : ChangeSpec := { name := "tissuePlans", fn := fun _ => fun
  | [d] => { results := [.lit (.bool false)], args := [d] }
  | _ => none }
def TissuePlansWrongFalsely : Prop := tissuePlansRow.holds Try.pinned (OpenSpec.ofChange tissuePlansWrong)

/- THE SECOND FORM. 'bulk': how many values and letters a reading holds, each counted each time it is reached (what is shared counts as often as it is met; a slice's spare places count too). A statement '..UptoSaid' is the law's where the arguments, and the package variables that the reading takes, are together of bulk at most 1048576: NARROWER than '..Said'. Prove '..Said' where nothing that the law and all that it calls make is longer than what came in: it says more and counts as full. Else prove '..UptoSaid'. A law counts once. -/
mutual
def uptoBulk {H : Type} : DataW H → Nat
  | .lit (.string bytes) => bytes.length + 1
  | .lit _ => 1
  | .nil => 1
  | .ptr d => uptoBulk d + 1
  | .slice elems spare => uptoBulkAll elems + uptoBulkAll spare + 1
  | .agg parts => uptoBulkAll parts + 1
  | .iface _ d => uptoBulk d + 1
  | .map entries => uptoBulkEntries entries + 1
  | .held _ => 1
def uptoBulkAll {H : Type} : List (DataW H) → Nat
  | [] => 0
  | d :: r => uptoBulk d + uptoBulkAll r
def uptoBulkEntries {H : Type} : List (Lit × DataW H) → Nat
  | [] => 0
  | x :: r => uptoBulkEntry x + uptoBulkEntries r
def uptoBulkEntry {H : Type} : Lit × DataW H → Nat
  | (.string bytes, d) => bytes.length + uptoBulk d + 1
  | (_, d) => uptoBulk d + 1
 end
def uptoSmall : (H : Type) → List (DataW H) → Bool := fun _ ds => decide (uptoBulkAll ds ≤ 1048576)
def OpenSpec.upto (s : _root_.Go.ChangeSpec) : _root_.Go.OpenSpec := { _root_.Go.OpenSpec.ofChange s with cond := some uptoSmall }

/-- 'shotlinelaw03.TissueLimits', WHERE WHAT IT READS IS OF BULK AT MOST 1048576: true; the input reads as it did. -/
def tissueLimitsUptoRow : OpenClaim := { program := "ytefbpboggdnhpab", sum := "66fcf23a26c757b28f66e1a7a3c427db53557a573475f2f5981b3719c76b2c2c", func := "shotline/shotlinelaw03.TissueLimits", spec := "tissueLimits", unfollowed := true, recurses := true, apart := false, narrowed := true }
def TissueLimitsUptoSaid : Prop := tissueLimitsUptoRow.holds Try.pinned (OpenSpec.upto tissueLimitsSpec)

/-- 'shotlinelaw03.TissueCeilings', WHERE WHAT IT READS IS OF BULK AT MOST 1048576: true; the input reads as it did. -/
def tissueCeilingsUptoRow : OpenClaim := { program := "ytefbpboggdnhpab", sum := "66fcf23a26c757b28f66e1a7a3c427db53557a573475f2f5981b3719c76b2c2c", func := "shotline/shotlinelaw03.TissueCeilings", spec := "tissueCeilings", unfollowed := true, recurses := true, apart := false, narrowed := true }
def TissueCeilingsUptoSaid : Prop := tissueCeilingsUptoRow.holds Try.pinned (OpenSpec.upto tissueCeilingsSpec)

/-- 'shotlinelaw03.TissueInside', WHERE WHAT IT READS IS OF BULK AT MOST 1048576: true; the input reads as it did. -/
def tissueInsideUptoRow : OpenClaim := { program := "ytefbpboggdnhpab", sum := "66fcf23a26c757b28f66e1a7a3c427db53557a573475f2f5981b3719c76b2c2c", func := "shotline/shotlinelaw03.TissueInside", spec := "tissueInside", unfollowed := true, recurses := true, apart := false, narrowed := true }
def TissueInsideUptoSaid : Prop := tissueInsideUptoRow.holds Try.pinned (OpenSpec.upto tissueInsideSpec)

/-- 'shotlinelaw03.TissuePlans', WHERE WHAT IT READS IS OF BULK AT MOST 1048576: true; the input reads as it did. -/
def tissuePlansUptoRow : OpenClaim := { program := "ytefbpboggdnhpab", sum := "66fcf23a26c757b28f66e1a7a3c427db53557a573475f2f5981b3719c76b2c2c", func := "shotline/shotlinelaw03.TissuePlans", spec := "tissuePlans", unfollowed := true, recurses := true, apart := false, narrowed := true }
def TissuePlansUptoSaid : Prop := tissuePlansUptoRow.holds Try.pinned (OpenSpec.upto tissuePlansSpec)

end Rows
end Go.Proofs.Ytefbpboggdnhpab
