/-
  No cell of these rows narrows 'for every input' (looked for: loops, veiled, ifaces, maps, wideKeys, modest, calm, conditions, laid).
  DERIVED. THE GIVEN ROWS OF THIS SEAT. 5 by the template 'for every input the law returns true; each argument reads behind the call as it read before'; 0 by the template 'total and deterministic' (their statements: YtgcafmgnpociiaaTotals.lean).
  GIVEN WITH THE SEED: the statements are not yours to turn. If you find one false, say at which input.
  Laid BY PROGRAM, IN A SANDBOX (cutbox-rows.mjs): the forced cells as the released guide's own fill.sh prints them over the translation e011bb4fa4bd6a9f… (all of the seat's roots in one cut). By AI agents, Wed Nov 11 2026. No macro, syntax, notation, axiom, sorry.
-/
import Derived.Test.YtgcafmgnpociiaaChecked
import GoSem.Claim
import GoSem.ClaimJoined
import GoSem.ClaimMapViews
import Derived.JoinedTies
import Derived.KernelRfl
namespace Go.Proofs.Ytgcafmgnpociiaa
/- THE CELL 'sum', in the pinned program and in every row, IS THE sha256 OF THE DUMP (.gsa) THAT YtgcafmgnpociiaaProg.lean LOADS. Nothing in Lean hashes anything: it is a label: what it is worth is what the hold of that sum in a sandbox is worth. -/
noncomputable def Try.pinned : Pinned := { name := "ytgcafmgnpociiaa", sum := "e011bb4fa4bd6a9f31407540ea56e22884cb9ac03217e79d23072c6a4667eda7", checked := Try.checked }
namespace Rows
def none {H : Type} : Left H := { results := [], args := [] }

/-- 'shotlinelaw08.SiteAngles': WHATEVER THE INPUT: true; the input reads as it did. -/
def siteAnglesSpec : ChangeSpec := { name := "siteAngles", fn := fun _ => fun
  | [d1, d2] => { results := [.lit (.bool true)], args := [d1, d2] }
  | _ => none }
def siteAnglesRow : OpenClaim := { program := "ytgcafmgnpociiaa", sum := "e011bb4fa4bd6a9f31407540ea56e22884cb9ac03217e79d23072c6a4667eda7", func := "shotline/shotlinelaw08.SiteAngles", spec := "siteAngles", unfollowed := true, recurses := true, apart := false }
def SiteAnglesSaid : Prop := siteAnglesRow.holds Try.pinned (OpenSpec.ofChange siteAnglesSpec)

/-- ITS FALSE NEIGHBOUR: 'it returns false'. Refute it at one input. -/
def siteAnglesWrong : ChangeSpec := { name := "siteAngles", fn := fun _ => fun
  | [d1, d2] => { results := [.lit (.bool false)], args := [d1, d2] }
  | _ => none }
def SiteAnglesWrongFalsely : Prop := siteAnglesRow.holds Try.pinned (OpenSpec.ofChange siteAnglesWrong)

/-- 'shotlinelaw08.SitePeriods': WHATEVER THE INPUT: true; the input reads as it did. -/
def sitePeriodsSpec : ChangeSpec := { name := "sitePeriods", fn := fun _ => fun
  | [d1, d2, d3] => { results := [.lit (.bool true)], args := [d1, d2, d3] }
  | _ => none }
def sitePeriodsRow : OpenClaim := { program := "ytgcafmgnpociiaa", sum := "e011bb4fa4bd6a9f31407540ea56e22884cb9ac03217e79d23072c6a4667eda7", func := "shotline/shotlinelaw08.SitePeriods", spec := "sitePeriods", unfollowed := true, recurses := true, apart := false }
def SitePeriodsSaid : Prop := sitePeriodsRow.holds Try.pinned (OpenSpec.ofChange sitePeriodsSpec)

/-- ITS FALSE NEIGHBOUR: 'it returns false'. Refute it at one input. -/
def sitePeriodsWrong : ChangeSpec := { name := "sitePeriods", fn := fun _ => fun
  | [d1, d2, d3] => { results := [.lit (.bool false)], args := [d1, d2, d3] }
  | _ => none }
def SitePeriodsWrongFalsely : Prop := sitePeriodsRow.holds Try.pinned (OpenSpec.ofChange sitePeriodsWrong)

/-- 'shotlinelaw08.SiteMinutes': WHATEVER THE INPUT: true; the input reads as it did. -/
def siteMinutesSpec : ChangeSpec := { name := "siteMinutes", fn := fun _ => fun
  | [d1, d2, d3] => { results := [.lit (.bool true)], args := [d1, d2, d3] }
  | _ => none }
def siteMinutesRow : OpenClaim := { program := "ytgcafmgnpociiaa", sum := "e011bb4fa4bd6a9f31407540ea56e22884cb9ac03217e79d23072c6a4667eda7", func := "shotline/shotlinelaw08.SiteMinutes", spec := "siteMinutes", unfollowed := true, recurses := true, apart := false }
def SiteMinutesSaid : Prop := siteMinutesRow.holds Try.pinned (OpenSpec.ofChange siteMinutesSpec)

/-- ITS FALSE NEIGHBOUR: 'it returns false'. Refute it at one input. -/
def siteMinutesWrong : ChangeSpec := { name := "siteMinutes", fn := fun _ => fun
  | [d1, d2, d3] => { results := [.lit (.bool false)], args := [d1, d2, d3] }
  | _ => none }
def SiteMinutesWrongFalsely : Prop := siteMinutesRow.holds Try.pinned (OpenSpec.ofChange siteMinutesWrong)

/-- 'shotlinelaw08.SiteFits': WHATEVER THE INPUT: true; the input reads as it did. -/
def siteFitsSpec : ChangeSpec := { name := "siteFits", fn := fun _ => fun
  | [d1, d2, d3] => { results := [.lit (.bool true)], args := [d1, d2, d3] }
  | _ => none }
def siteFitsRow : OpenClaim := { program := "ytgcafmgnpociiaa", sum := "e011bb4fa4bd6a9f31407540ea56e22884cb9ac03217e79d23072c6a4667eda7", func := "shotline/shotlinelaw08.SiteFits", spec := "siteFits", unfollowed := true, recurses := true, apart := false }
def SiteFitsSaid : Prop := siteFitsRow.holds Try.pinned (OpenSpec.ofChange siteFitsSpec)

/-- ITS FALSE NEIGHBOUR: 'it returns false'. Refute it at one input. -/
def siteFitsWrong : ChangeSpec := { name := "siteFits", fn := fun _ => fun
  | [d1, d2, d3] => { results := [.lit (.bool false)], args := [d1, d2, d3] }
  | _ => none }
def SiteFitsWrongFalsely : Prop := siteFitsRow.holds Try.pinned (OpenSpec.ofChange siteFitsWrong)

/-- 'shotlinetop.TopTidesAdd': WHATEVER THE INPUT: true; the input reads as it did. -/
def topTidesAddSpec : ChangeSpec := { name := "topTidesAdd", fn := fun _ => fun
  | [d1, d2, d3] => { results := [.lit (.bool true)], args := [d1, d2, d3] }
  | _ => none }
def topTidesAddRow : OpenClaim := { program := "ytgcafmgnpociiaa", sum := "e011bb4fa4bd6a9f31407540ea56e22884cb9ac03217e79d23072c6a4667eda7", func := "shotline/shotlinetop.TopTidesAdd", spec := "topTidesAdd", unfollowed := true, recurses := true, apart := false }
def TopTidesAddSaid : Prop := topTidesAddRow.holds Try.pinned (OpenSpec.ofChange topTidesAddSpec)

/-- ITS FALSE NEIGHBOUR: 'it returns false'. Refute it at one input. -/
def topTidesAddWrong : ChangeSpec := { name := "topTidesAdd", fn := fun _ => fun
  | [d1, d2, d3] => { results := [.lit (.bool false)], args := [d1, d2, d3] }
  | _ => none }
def TopTidesAddWrongFalsely : Prop := topTidesAddRow.holds Try.pinned (OpenSpec.ofChange topTidesAddWrong)

/- THE SECOND FORM. 'bulk': how many values and letters a reading holds, each counted each time it is reached (what is shared counts as often as it is met; a slice's spare places count too). A statement '..UptoSaid' is the law's where the arguments, and the package variables that the reading takes, are together of bulk at most 1048576: NARROWER than '..Said'. Prove '..Said' where nothing that the law and all that it calls make is longer than what came in: it says more and counts as full. Else prove '..UptoSaid'. A law counts once. -/
mutual
def uptoBulk {H : Type} : DataW H → Nat
  | .lit (.string bytes) => bytes.length + 1
  | .lit _ => 1
  | .nil => 1
  | .ptr d => uptoBulk d + 1
  | .slice elems spare => uptoBulkAll elems + uptoBulkAll spare + 1
  | .agg parts => uptoBulkAll parts + 1
  | .iface _ d => uptoBulk d + 1
  | .map entries => uptoBulkEntries entries + 1
  | .held _ => 1
def uptoBulkAll {H : Type} : List (DataW H) → Nat
  | [] => 0
  | d :: r => uptoBulk d + uptoBulkAll r
def uptoBulkEntries {H : Type} : List (Lit × DataW H) → Nat
  | [] => 0
  | x :: r => uptoBulkEntry x + uptoBulkEntries r
def uptoBulkEntry {H : Type} : Lit × DataW H → Nat
  | (.string bytes, d) => bytes.length + uptoBulk d + 1
  | (_, d) => uptoBulk d + 1
 end
def uptoSmall : (H : Type) → List (DataW H) → Bool := fun _ ds => decide (uptoBulkAll ds ≤ 1048576)
def OpenSpec.upto (s : _root_.Go.ChangeSpec) : _root_.Go.OpenSpec := { _root_.Go.OpenSpec.ofChange s with cond := some uptoSmall }

/-- 'shotlinelaw08.SiteAngles', WHERE WHAT IT READS IS OF BULK AT MOST 1048576: true; the input reads as it did. -/
def siteAnglesUptoRow : OpenClaim := { program := "ytgcafmgnpociiaa", sum := "e011bb4fa4bd6a9f31407540ea56e22884cb9ac03217e79d23072c6a4667eda7", func := "shotline/shotlinelaw08.SiteAngles", spec := "siteAngles", unfollowed := true, recurses := true, apart := false, narrowed := true }
def SiteAnglesUptoSaid : Prop := siteAnglesUptoRow.holds Try.pinned (OpenSpec.upto siteAnglesSpec)

/-- 'shotlinelaw08.SitePeriods', WHERE WHAT IT READS IS OF BULK AT MOST 1048576: true; the input reads as it did. -/
def sitePeriodsUptoRow : OpenClaim := { program := "ytgcafmgnpociiaa", sum := "e011bb4fa4bd6a9f31407540ea56e22884cb9ac03217e79d23072c6a4667eda7", func := "shotline/shotlinelaw08.SitePeriods", spec := "sitePeriods", unfollowed := true, recurses := true, apart := false, narrowed := true }
def SitePeriodsUptoSaid : Prop := sitePeriodsUptoRow.holds Try.pinned (OpenSpec.upto sitePeriodsSpec)

/-- 'shotlinelaw08.SiteMinutes', WHERE WHAT IT READS IS OF BULK AT MOST 1048576: true; the input reads as it did. -/
def siteMinutesUptoRow : OpenClaim := { program := "ytgcafmgnpociiaa", sum := "e011bb4fa4bd6a9f31407540ea56e22884cb9ac03217e79d23072c6a4667eda7", func := "shotline/shotlinelaw08.SiteMinutes", spec := "siteMinutes", unfollowed := true, recurses := true, apart := false, narrowed := true }
def SiteMinutesUptoSaid : Prop := siteMinutesUptoRow.holds Try.pinned (OpenSpec.upto siteMinutesSpec)

/-- 'shotlinelaw08.SiteFits', WHERE WHAT IT READS IS OF BULK AT MOST 1048576: true; the input reads as it did. -/
def siteFitsUptoRow : OpenClaim := { program := "ytgcafmgnpociiaa", sum := "e011bb4fa4bd6a9f31407540ea56e22884cb9ac03217e79d23072c6a4667eda7", func := "shotline/shotlinelaw08.SiteFits", spec := "siteFits", unfollowed := true, recurses := true, apart := false, narrowed := true }
def SiteFitsUptoSaid : Prop := siteFitsUptoRow.holds Try.pinned (OpenSpec.upto siteFitsSpec)

/-- 'shotlinetop.TopTidesAdd', WHERE WHAT IT READS IS OF BULK AT MOST 1048576: true; the input reads as it did. -/
def topTidesAddUptoRow : OpenClaim := { program := "ytgcafmgnpociiaa", sum := "e011bb4fa4bd6a9f31407540ea56e22884cb9ac03217e79d23072c6a4667eda7", func := "shotline/shotlinetop.TopTidesAdd", spec := "topTidesAdd", unfollowed := true, recurses := true, apart := false, narrowed := true }
def TopTidesAddUptoSaid : Prop := topTidesAddUptoRow.holds Try.pinned (OpenSpec.upto topTidesAddSpec)

end Rows
end Go.Proofs.Ytgcafmgnpociiaa
