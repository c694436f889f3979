/- A number divided, rounded down and up; a part of a number in parts of a thousand million. -/
import Derived.Test.YtbdiljbjddppcaaLeaf
import Derived.Outline
namespace Go.Proofs.Ytbdiljbjddppcaa
open Go.ChangeShapes Go.WideShapes Go.ChangeAt Go.RowKit
set_option linter.unusedVariables false
set_option linter.unusedSimpArgs false

theorem divide_any (n d : Int) (w : World) (h0 : 0 ≤ n) (h1 : n ≤ 2000000000000000000) (h2 : 0 < d) (h3 : d ≤ 1000000000000000000) :
    Calls Try.prog 66 #[.int .i64 n, .int .i64 d] w fun e w' => e = .returned (.agg #[.int .i64 (n / d), .int .i64 ((n + d - 1) / d)]) ∧ (w.alloc (.cells #[.int .i64 (n / d), .int .i64 ((n + d - 1) / d)] 34)).drew = w' := by
  have hq : IntKind.i64.wrap (n.tdiv d) = n / d := by
    rw [Int.tdiv_eq_ediv_of_nonneg h0]
    have a1 : 0 ≤ n / d := Int.ediv_nonneg h0 (by omega)
    have a2 : n / d ≤ n := Int.ediv_le_self _ h0
    exact IntWalk.i64_in _ (by omega)
  have hq2 : IntKind.i64.wrap ((n + d - 1).tdiv d) = (n + d - 1) / d := by
    rw [Int.tdiv_eq_ediv_of_nonneg (by omega)]
    have a1 : 0 ≤ (n + d - 1) / d := Int.ediv_nonneg (by omega) (by omega)
    have a2 : (n + d - 1) / d ≤ n + d - 1 := Int.ediv_le_self _ (by omega)
    exact IntWalk.i64_in _ (by omega)
  have hs1 : IntKind.i64.wrap (n + d) = n + d := IntWalk.i64_in _ (by omega)
  have hs2 : IntKind.i64.wrap (n + d - 1) = n + d - 1 := IntWalk.i64_in _ (by omega)
  have hd : ¬ d = 0 := by omega
  have k1 : 1 ≤ d := by omega
  have k2 : 0 ≤ n + d - 1 := by omega
  go_enter Try.func66, Try.ntmps66
  go_wp2
  go_region_held3 (fun w' => True) (trivial) (fail)
  go_wp2
  refine bodyPost_ret (v := .agg #[.int .i64 (n / d), .int .i64 ((n + d - 1) / d)]) (by simp [results, Try.results66, go_sem]) rfl ⟨rfl, rfl⟩
/-- A part of a number, in parts of a thousand million: rounded down, and up. -/
def shLo (n p : Int) : Int := n * p / 1000000000
def shHi (n p : Int) : Int := (n * p + 1000000000 - 1) / 1000000000
theorem share_any (n p : Int) (w : World) (h0 : 0 ≤ n) (h1 : n ≤ 2000000000) (p0 : 0 ≤ p) (p1 : p ≤ 1000000000) :
    Calls Try.prog 95 #[.int .i64 n, .int .i64 p] w fun e w' => e = .returned (.agg #[.int .i64 (shLo n p), .int .i64 (shHi n p)]) ∧ Below w.heap.size w w' := by
  have hm : 0 ≤ n * p ∧ n * p ≤ 2000000000000000000 := ⟨Int.mul_nonneg h0 p0, Int.le_trans (Int.mul_le_mul h1 p1 p0 (by omega)) (by omega)⟩
  obtain ⟨m0, m1⟩ := hm
  have hw : IntKind.i64.wrap (n * p) = n * p := IntWalk.i64_in _ (by omega)
  go_enter Try.func95, Try.ntmps95
  go_wp2_with fail
  refine (divide_any (n * p) 1000000000 _ m0 m1 (by omega) (by omega)).mono ?_
  rintro e w1 ⟨rfl, rfl⟩
  go_wp2
  refine bodyPost_ret (v := .agg #[.int .i64 (shLo n p), .int .i64 (shHi n p)]) (by simp [results, Try.results95, go_sem, World.cell?_alloc_past, shLo, shHi]) rfl ⟨rfl, ?_⟩
  (repeat (first | (with_reducible refine Below.drew ?_) | (with_reducible refine below_drewN ?_ _) | (with_reducible refine Below.alloc ?_ (by first | omega | (simp; done) | (simp; omega) | (simp at *; omega)) _) | (with_reducible refine Below.setCell ?_ (by first | omega | (simp; done) | (simp; omega) | (simp at *; omega)) _) | (with_reducible exact Below.refl _ _) | (with_reducible assumption) | (with_reducible refine Below.trans ?_ (Below.mono (by assumption) (by first | omega | (simp; done) | (simp; omega) | (simp at *; omega))))))
end Go.Proofs.Ytbdiljbjddppcaa
