/-
  No cell of these rows narrows 'for every input' (looked for: loops, veiled, ifaces, maps, wideKeys, modest, calm, conditions, laid).
  DERIVED. THE GIVEN ROWS OF THIS SEAT. 8 by the template 'for every input the law returns true; each argument reads behind the call as it read before'; 0 by the template 'total and deterministic' (their statements: YtojaompfffpofaaGreatTotals.lean).
  GIVEN WITH THE SEED: the statements are not yours to turn. If you find one false, say at which input.
  Laid BY PROGRAM, IN A SANDBOX (cutbox-rows.mjs): the forced cells as the released guide's own fill.sh prints them over the translation dc7c6ee73fff49e4… (all of the seat's roots in one cut). By AI agents, Wed Nov 11 2026. No macro, syntax, notation, axiom, sorry.
-/
import Derived.Test.YtojaompfffpofaaGreatChecked
import GoSem.Claim
import GoSem.ClaimJoined
import GoSem.ClaimMapViews
import Derived.JoinedTies
import Derived.KernelRfl
namespace Go.Proofs.YtojaompfffpofaaGreat
/- THE CELL 'sum', in the pinned program and in every row, IS THE sha256 OF THE DUMP (.gsa) THAT YtojaompfffpofaaGreatProg.lean LOADS. Nothing in Lean hashes anything: it is a label: what it is worth is what the hold of that sum in a sandbox is worth. -/
noncomputable def Tryz.pinned : Pinned := { name := "ytojaompfffpofaagreat", sum := "dc7c6ee73fff49e4284eb4f43a3429a90f28bd99910657469f5ca737e89f73c1", checked := Tryz.checked }
namespace Rows
def none {H : Type} : Left H := { results := [], args := [] }

/-- 'shotlinelaw08.SiteSlackWindows': WHATEVER THE INPUT: true; the input reads as it did. -/
def siteSlackWindowsSpec : ChangeSpec := { name := "siteSlackWindows", fn := fun _ => fun
  | [d1, d2] => { results := [.lit (.bool true)], args := [d1, d2] }
  | _ => none }
def siteSlackWindowsRow : OpenClaim := { program := "ytojaompfffpofaagreat", sum := "dc7c6ee73fff49e4284eb4f43a3429a90f28bd99910657469f5ca737e89f73c1", func := "shotline/shotlinelaw08.SiteSlackWindows", spec := "siteSlackWindows", unfollowed := true, recurses := true, apart := false }
def SiteSlackWindowsSaid : Prop := siteSlackWindowsRow.holds Tryz.pinned (OpenSpec.ofChange siteSlackWindowsSpec)

/-- ITS FALSE NEIGHBOUR: 'it returns false'. Refute it at one input. -/
def siteSlackWindowsWrong : ChangeSpec := { name := "siteSlackWindows", fn := fun _ => fun
  | [d1, d2] => { results := [.lit (.bool false)], args := [d1, d2] }
  | _ => none }
def SiteSlackWindowsWrongFalsely : Prop := siteSlackWindowsRow.holds Tryz.pinned (OpenSpec.ofChange siteSlackWindowsWrong)

/-- 'shotlinelaw08.SiteSurely': WHATEVER THE INPUT: true; the input reads as it did. -/
def siteSurelySpec : ChangeSpec := { name := "siteSurely", fn := fun _ => fun
  | [d1, d2, d3] => { results := [.lit (.bool true)], args := [d1, d2, d3] }
  | _ => none }
def siteSurelyRow : OpenClaim := { program := "ytojaompfffpofaagreat", sum := "dc7c6ee73fff49e4284eb4f43a3429a90f28bd99910657469f5ca737e89f73c1", func := "shotline/shotlinelaw08.SiteSurely", spec := "siteSurely", unfollowed := true, recurses := true, apart := false }
def SiteSurelySaid : Prop := siteSurelyRow.holds Tryz.pinned (OpenSpec.ofChange siteSurelySpec)

/-- ITS FALSE NEIGHBOUR: 'it returns false'. Refute it at one input. -/
def siteSurelyWrong : ChangeSpec := { name := "siteSurely", fn := fun _ => fun
  | [d1, d2, d3] => { results := [.lit (.bool false)], args := [d1, d2, d3] }
  | _ => none }
def SiteSurelyWrongFalsely : Prop := siteSurelyRow.holds Tryz.pinned (OpenSpec.ofChange siteSurelyWrong)

/-- 'shotlinelaw08.SiteWindows': WHATEVER THE INPUT: true; the input reads as it did. -/
def siteWindowsSpec : ChangeSpec := { name := "siteWindows", fn := fun _ => fun
  | [d1, d2] => { results := [.lit (.bool true)], args := [d1, d2] }
  | _ => none }
def siteWindowsRow : OpenClaim := { program := "ytojaompfffpofaagreat", sum := "dc7c6ee73fff49e4284eb4f43a3429a90f28bd99910657469f5ca737e89f73c1", func := "shotline/shotlinelaw08.SiteWindows", spec := "siteWindows", unfollowed := true, recurses := true, apart := false }
def SiteWindowsSaid : Prop := siteWindowsRow.holds Tryz.pinned (OpenSpec.ofChange siteWindowsSpec)

/-- ITS FALSE NEIGHBOUR: 'it returns false'. Refute it at one input. -/
def siteWindowsWrong : ChangeSpec := { name := "siteWindows", fn := fun _ => fun
  | [d1, d2] => { results := [.lit (.bool false)], args := [d1, d2] }
  | _ => none }
def SiteWindowsWrongFalsely : Prop := siteWindowsRow.holds Tryz.pinned (OpenSpec.ofChange siteWindowsWrong)

/-- 'shotlinelaw08.SiteWinds': WHATEVER THE INPUT: true; the input reads as it did. -/
def siteWindsSpec : ChangeSpec := { name := "siteWinds", fn := fun _ => fun
  | [d1, d2] => { results := [.lit (.bool true)], args := [d1, d2] }
  | _ => none }
def siteWindsRow : OpenClaim := { program := "ytojaompfffpofaagreat", sum := "dc7c6ee73fff49e4284eb4f43a3429a90f28bd99910657469f5ca737e89f73c1", func := "shotline/shotlinelaw08.SiteWinds", spec := "siteWinds", unfollowed := true, recurses := true, apart := false }
def SiteWindsSaid : Prop := siteWindsRow.holds Tryz.pinned (OpenSpec.ofChange siteWindsSpec)

/-- ITS FALSE NEIGHBOUR: 'it returns false'. Refute it at one input. -/
def siteWindsWrong : ChangeSpec := { name := "siteWinds", fn := fun _ => fun
  | [d1, d2] => { results := [.lit (.bool false)], args := [d1, d2] }
  | _ => none }
def SiteWindsWrongFalsely : Prop := siteWindsRow.holds Tryz.pinned (OpenSpec.ofChange siteWindsWrong)

/-- 'shotlinelaw08.SiteCharts': WHATEVER THE INPUT: true; the input reads as it did. -/
def siteChartsSpec : ChangeSpec := { name := "siteCharts", fn := fun _ => fun
  | [d1, d2] => { results := [.lit (.bool true)], args := [d1, d2] }
  | _ => none }
def siteChartsRow : OpenClaim := { program := "ytojaompfffpofaagreat", sum := "dc7c6ee73fff49e4284eb4f43a3429a90f28bd99910657469f5ca737e89f73c1", func := "shotline/shotlinelaw08.SiteCharts", spec := "siteCharts", unfollowed := true, recurses := true, apart := false }
def SiteChartsSaid : Prop := siteChartsRow.holds Tryz.pinned (OpenSpec.ofChange siteChartsSpec)

/-- ITS FALSE NEIGHBOUR: 'it returns false'. Refute it at one input. -/
def siteChartsWrong : ChangeSpec := { name := "siteCharts", fn := fun _ => fun
  | [d1, d2] => { results := [.lit (.bool false)], args := [d1, d2] }
  | _ => none }
def SiteChartsWrongFalsely : Prop := siteChartsRow.holds Tryz.pinned (OpenSpec.ofChange siteChartsWrong)

/-- 'shotlinelaw08.SiteNoShorter': WHATEVER THE INPUT: true; the input reads as it did. -/
def siteNoShorterSpec : ChangeSpec := { name := "siteNoShorter", fn := fun _ => fun
  | [d1, d2] => { results := [.lit (.bool true)], args := [d1, d2] }
  | _ => none }
def siteNoShorterRow : OpenClaim := { program := "ytojaompfffpofaagreat", sum := "dc7c6ee73fff49e4284eb4f43a3429a90f28bd99910657469f5ca737e89f73c1", func := "shotline/shotlinelaw08.SiteNoShorter", spec := "siteNoShorter", unfollowed := true, recurses := true, apart := false }
def SiteNoShorterSaid : Prop := siteNoShorterRow.holds Tryz.pinned (OpenSpec.ofChange siteNoShorterSpec)

/-- ITS FALSE NEIGHBOUR: 'it returns false'. Refute it at one input. -/
def siteNoShorterWrong : ChangeSpec := { name := "siteNoShorter", fn := fun _ => fun
  | [d1, d2] => { results := [.lit (.bool false)], args := [d1, d2] }
  | _ => none }
def SiteNoShorterWrongFalsely : Prop := siteNoShorterRow.holds Tryz.pinned (OpenSpec.ofChange siteNoShorterWrong)

/-- 'shotlinelaw08.SiteRuns': WHATEVER THE INPUT: true; the input reads as it did. -/
def siteRunsSpec : ChangeSpec := { name := "siteRuns", fn := fun _ => fun
  | [d1, d2, d3] => { results := [.lit (.bool true)], args := [d1, d2, d3] }
  | _ => none }
def siteRunsRow : OpenClaim := { program := "ytojaompfffpofaagreat", sum := "dc7c6ee73fff49e4284eb4f43a3429a90f28bd99910657469f5ca737e89f73c1", func := "shotline/shotlinelaw08.SiteRuns", spec := "siteRuns", unfollowed := true, recurses := true, apart := false }
def SiteRunsSaid : Prop := siteRunsRow.holds Tryz.pinned (OpenSpec.ofChange siteRunsSpec)

/-- ITS FALSE NEIGHBOUR: 'it returns false'. Refute it at one input. -/
def siteRunsWrong : ChangeSpec := { name := "siteRuns", fn := fun _ => fun
  | [d1, d2, d3] => { results := [.lit (.bool false)], args := [d1, d2, d3] }
  | _ => none }
def SiteRunsWrongFalsely : Prop := siteRunsRow.holds Tryz.pinned (OpenSpec.ofChange siteRunsWrong)

/-- 'shotlinetop.TopDiveWindows': WHATEVER THE INPUT: true; the input reads as it did. -/
def topDiveWindowsSpec : ChangeSpec := { name := "topDiveWindows", fn := fun _ => fun
  | [d1, d2] => { results := [.lit (.bool true)], args := [d1, d2] }
  | _ => none }
def topDiveWindowsRow : OpenClaim := { program := "ytojaompfffpofaagreat", sum := "dc7c6ee73fff49e4284eb4f43a3429a90f28bd99910657469f5ca737e89f73c1", func := "shotline/shotlinetop.TopDiveWindows", spec := "topDiveWindows", unfollowed := true, recurses := true, apart := false }
def TopDiveWindowsSaid : Prop := topDiveWindowsRow.holds Tryz.pinned (OpenSpec.ofChange topDiveWindowsSpec)

/-- ITS FALSE NEIGHBOUR: 'it returns false'. Refute it at one input. -/
def topDiveWindowsWrong : ChangeSpec := { name := "topDiveWindows", fn := fun _ => fun
  | [d1, d2] => { results := [.lit (.bool false)], args := [d1, d2] }
  | _ => none }
def TopDiveWindowsWrongFalsely : Prop := topDiveWindowsRow.holds Tryz.pinned (OpenSpec.ofChange topDiveWindowsWrong)

/- THE SECOND FORM. 'bulk': how many values and letters a reading holds, each counted each time it is reached (what is shared counts as often as it is met; a slice's spare places count too). A statement '..UptoSaid' is the law's where the arguments, and the package variables that the reading takes, are together of bulk at most 1048576: NARROWER than '..Said'. Prove '..Said' where nothing that the law and all that it calls make is longer than what came in: it says more and counts as full. Else prove '..UptoSaid'. A law counts once. -/
mutual
def uptoBulk {H : Type} : DataW H → Nat
  | .lit (.string bytes) => bytes.length + 1
  | .lit _ => 1
  | .nil => 1
  | .ptr d => uptoBulk d + 1
  | .slice elems spare => uptoBulkAll elems + uptoBulkAll spare + 1
  | .agg parts => uptoBulkAll parts + 1
  | .iface _ d => uptoBulk d + 1
  | .map entries => uptoBulkEntries entries + 1
  | .held _ => 1
def uptoBulkAll {H : Type} : List (DataW H) → Nat
  | [] => 0
  | d :: r => uptoBulk d + uptoBulkAll r
def uptoBulkEntries {H : Type} : List (Lit × DataW H) → Nat
  | [] => 0
  | x :: r => uptoBulkEntry x + uptoBulkEntries r
def uptoBulkEntry {H : Type} : Lit × DataW H → Nat
  | (.string bytes, d) => bytes.length + uptoBulk d + 1
  | (_, d) => uptoBulk d + 1
 end
def uptoSmall : (H : Type) → List (DataW H) → Bool := fun _ ds => decide (uptoBulkAll ds ≤ 1048576)
def OpenSpec.upto (s : _root_.Go.ChangeSpec) : _root_.Go.OpenSpec := { _root_.Go.OpenSpec.ofChange s with cond := some uptoSmall }

/-- 'shotlinelaw08.SiteSlackWindows', WHERE WHAT IT READS IS OF BULK AT MOST 1048576: true; the input reads as it did. -/
def siteSlackWindowsUptoRow : OpenClaim := { program := "ytojaompfffpofaagreat", sum := "dc7c6ee73fff49e4284eb4f43a3429a90f28bd99910657469f5ca737e89f73c1", func := "shotline/shotlinelaw08.SiteSlackWindows", spec := "siteSlackWindows", unfollowed := true, recurses := true, apart := false, narrowed := true }
def SiteSlackWindowsUptoSaid : Prop := siteSlackWindowsUptoRow.holds Tryz.pinned (OpenSpec.upto siteSlackWindowsSpec)

/-- 'shotlinelaw08.SiteSurely', WHERE WHAT IT READS IS OF BULK AT MOST 1048576: true; the input reads as it did. -/
def siteSurelyUptoRow : OpenClaim := { program := "ytojaompfffpofaagreat", sum := "dc7c6ee73fff49e4284eb4f43a3429a90f28bd99910657469f5ca737e89f73c1", func := "shotline/shotlinelaw08.SiteSurely", spec := "siteSurely", unfollowed := true, recurses := true, apart := false, narrowed := true }
def SiteSurelyUptoSaid : Prop := siteSurelyUptoRow.holds Tryz.pinned (OpenSpec.upto siteSurelySpec)

/-- 'shotlinelaw08.SiteWindows', WHERE WHAT IT READS IS OF BULK AT MOST 1048576: true; the input reads as it did. -/
def siteWindowsUptoRow : OpenClaim := { program := "ytojaompfffpofaagreat", sum := "dc7c6ee73fff49e4284eb4f43a3429a90f28bd99910657469f5ca737e89f73c1", func := "shotline/shotlinelaw08.SiteWindows", spec := "siteWindows", unfollowed := true, recurses := true, apart := false, narrowed := true }
def SiteWindowsUptoSaid : Prop := siteWindowsUptoRow.holds Tryz.pinned (OpenSpec.upto siteWindowsSpec)

/-- 'shotlinelaw08.SiteWinds', WHERE WHAT IT READS IS OF BULK AT MOST 1048576: true; the input reads as it did. -/
def siteWindsUptoRow : OpenClaim := { program := "ytojaompfffpofaagreat", sum := "dc7c6ee73fff49e4284eb4f43a3429a90f28bd99910657469f5ca737e89f73c1", func := "shotline/shotlinelaw08.SiteWinds", spec := "siteWinds", unfollowed := true, recurses := true, apart := false, narrowed := true }
def SiteWindsUptoSaid : Prop := siteWindsUptoRow.holds Tryz.pinned (OpenSpec.upto siteWindsSpec)

/-- 'shotlinelaw08.SiteCharts', WHERE WHAT IT READS IS OF BULK AT MOST 1048576: true; the input reads as it did. -/
def siteChartsUptoRow : OpenClaim := { program := "ytojaompfffpofaagreat", sum := "dc7c6ee73fff49e4284eb4f43a3429a90f28bd99910657469f5ca737e89f73c1", func := "shotline/shotlinelaw08.SiteCharts", spec := "siteCharts", unfollowed := true, recurses := true, apart := false, narrowed := true }
def SiteChartsUptoSaid : Prop := siteChartsUptoRow.holds Tryz.pinned (OpenSpec.upto siteChartsSpec)

/-- 'shotlinelaw08.SiteNoShorter', WHERE WHAT IT READS IS OF BULK AT MOST 1048576: true; the input reads as it did. -/
def siteNoShorterUptoRow : OpenClaim := { program := "ytojaompfffpofaagreat", sum := "dc7c6ee73fff49e4284eb4f43a3429a90f28bd99910657469f5ca737e89f73c1", func := "shotline/shotlinelaw08.SiteNoShorter", spec := "siteNoShorter", unfollowed := true, recurses := true, apart := false, narrowed := true }
def SiteNoShorterUptoSaid : Prop := siteNoShorterUptoRow.holds Tryz.pinned (OpenSpec.upto siteNoShorterSpec)

/-- 'shotlinelaw08.SiteRuns', WHERE WHAT IT READS IS OF BULK AT MOST 1048576: true; the input reads as it did. -/
def siteRunsUptoRow : OpenClaim := { program := "ytojaompfffpofaagreat", sum := "dc7c6ee73fff49e4284eb4f43a3429a90f28bd99910657469f5ca737e89f73c1", func := "shotline/shotlinelaw08.SiteRuns", spec := "siteRuns", unfollowed := true, recurses := true, apart := false, narrowed := true }
def SiteRunsUptoSaid : Prop := siteRunsUptoRow.holds Tryz.pinned (OpenSpec.upto siteRunsSpec)

/-- 'shotlinetop.TopDiveWindows', WHERE WHAT IT READS IS OF BULK AT MOST 1048576: true; the input reads as it did. -/
def topDiveWindowsUptoRow : OpenClaim := { program := "ytojaompfffpofaagreat", sum := "dc7c6ee73fff49e4284eb4f43a3429a90f28bd99910657469f5ca737e89f73c1", func := "shotline/shotlinetop.TopDiveWindows", spec := "topDiveWindows", unfollowed := true, recurses := true, apart := false, narrowed := true }
def TopDiveWindowsUptoSaid : Prop := topDiveWindowsUptoRow.holds Tryz.pinned (OpenSpec.upto topDiveWindowsSpec)

end Rows
end Go.Proofs.YtojaompfffpofaaGreat
