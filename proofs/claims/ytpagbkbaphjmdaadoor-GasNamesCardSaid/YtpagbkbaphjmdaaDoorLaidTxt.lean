/- What the program's text lays in the package variables by which texts of numbers are written and read. -/
import Derived.Test.YtpagbkbaphjmdaaDoorRows
import Derived.Test.YtpagbkbaphjmdaaDoorLawNames
import Derived.Stop.LaidErr
namespace Go.Proofs.YtpagbkbaphjmdaaDoor
open Go.ChangeShapes Go.WideShapes Go.ChangeAt Go.RowKit
set_option linter.unusedVariables false

theorem mxLen (W : World) (h : W.ShapedOpen Tryd.prog) : ∃ m, W.cell? ⟨1, 0, none⟩ = some (.int .i64 m) := Tryd.laysM145.s1_3 W h
theorem starErr : "*" ++ "errors.errorString" = "*errors.errorString" := by decide
theorem rowErr (u : TypeId) (h : Tryd.prog.typeName? 3 u = some "*errors.errorString") : u = 134 :=
  typeName_ptr_named (nm := "errors.errorString") (by rw [starErr]; kernel_rfl) (by kernel_rfl) (by decide) u (by rw [starErr]; exact h)
theorem tab_of {W : World} {r : List (String × DataW Unit)} (h : laidMet Tryd.prog (("internal/strconv.uint64pow10", Rows.laid_internal_strconv_uint64pow10) :: r) W) : TabOk W :=
  Lib.tabIs_of_head (P := Tryd.prog) (zs := Lib.pow10Tab) (k := .u64) (g := 0) (t := 105) (e := 94) (n := 20) (by kernel_rfl) (by kernel_rfl) Tryd.underlying105 Tryd.underlying94 (by kernel_rfl) (by kernel_rfl) h
theorem err_of {W : World} {n : String} {g : Nat} {tp : TypeId} {p : Value} (hg : Tryd.prog.globalNamed n = some g) (hv : W.var? Tryd.prog n = some #[.iface tp p]) : W.cell? ⟨g, 0, none⟩ = some (.iface tp p) := by
  have h0 := World.var?_cell hg hv 0
  simpa using h0
theorem laid_txt {W : World} (m : Int) (hm : W.cell? ⟨1, 0, none⟩ = some (.int .i64 m)) (h : laidMet Tryd.prog Rows.gasNamesRow.laid W) : TxtOk W m := by
  have h2 := laidMet.tail (laidMet.tail h)
  have h3 := laidMet.tail h2
  have h4 := laidMet.tail h3
  refine ⟨hm, tab_of h2, ?_⟩
  obtain ⟨a0, s0, v0, _⟩ := laid_sentinel (g := 5) (tp := 134) (te := 136) h3 (by kernel_rfl) (by kernel_rfl) Tryd.underlying101 rowErr Tryd.underlying134 Tryd.underlying136 rfl rfl Tryd.underlying9 (by kernel_rfl) (by kernel_rfl)
  obtain ⟨a1, s1, v1, _⟩ := laid_sentinel (g := 4) (tp := 134) (te := 136) h4 (by kernel_rfl) (by kernel_rfl) Tryd.underlying101 rowErr Tryd.underlying134 Tryd.underlying136 rfl rfl Tryd.underlying9 (by kernel_rfl) (by kernel_rfl)
  have c0 := err_of (g := 5) (by kernel_rfl) v0
  have c1 := err_of (g := 4) (by kernel_rfl) v1
  rintro g (rfl | rfl)
  · exact ⟨_, c1, Or.inr ⟨_, _, rfl⟩⟩
  · exact ⟨_, c0, Or.inr ⟨_, _, rfl⟩⟩
end Go.Proofs.YtpagbkbaphjmdaaDoor
