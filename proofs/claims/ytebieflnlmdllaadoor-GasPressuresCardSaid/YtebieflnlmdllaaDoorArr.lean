/- Two arrays of three ints are equal where they are the same. -/
import Derived.Test.YtebieflnlmdllaaDoorLeaf
import Derived.ChangeKeysEq
namespace Go.Proofs.YtebieflnlmdllaaDoor
open Go.ChangeShapes Go.WideShapes Go.ChangeAt Go.RowKit

theorem part3a (a b c : Int) (w : World) : (part 3 #[.int .i64 a, .int .i64 b, .int .i64 c] 0).run Tryd.prog w = .ok (.int .i64 a) w := by kernel_rfl
theorem part3b (a b c : Int) (w : World) : (part 3 #[.int .i64 a, .int .i64 b, .int .i64 c] 1).run Tryd.prog w = .ok (.int .i64 b) w := by kernel_rfl
theorem part3c (a b c : Int) (w : World) : (part 3 #[.int .i64 a, .int .i64 b, .int .i64 c] 2).run Tryd.prog w = .ok (.int .i64 c) w := by kernel_rfl
theorem info3 : ∃ i, Tryd.prog.info? 3 = some i := Option.isSome_iff_exists.1 (by kernel_rfl)
theorem cells3 : Tryd.prog.cellsOf 3 = 1 := by kernel_rfl
theorem undI (w : World) : (underlying 3).run Tryd.prog w = .ok (.int .i64) w := by kernel_rfl
theorem eqInt (d : Nat) (a : Int) (w : World) : (Op.equalIn (d + 1) 3 (.int .i64 a) (.int .i64 a)).run Tryd.prog w = .ok true w := by
  simp only [Op.equalIn, Sem.run_bind, undI, Result.andThen]
  simp
theorem eqArr (a b c : Int) (w : World) : (Op.equal 40 (.agg #[.int .i64 a, .int .i64 b, .int .i64 c]) (.agg #[.int .i64 a, .int .i64 b, .int .i64 c])).run Tryd.prog w = .ok true w := by
  obtain ⟨i, hi⟩ := info3
  have h := run_equalIn_array (P := Tryd.prog) (w := w) 9999 (t := 40) (e := 3) (n := 3) #[.int .i64 a, .int .i64 b, .int .i64 c] #[.int .i64 a, .int .i64 b, .int .i64 c] Tryd.underlying40 hi
  refine h.trans ?_
  rw [cells3, show List.range 3 = [0, 1, 2] from rfl]
  simp [Op.eqItems, Sem.run_bind, part3a, part3b, part3c, eqInt 9998]
theorem eqArrIn (a b c : Int) (w : World) : (Op.equalIn 10000 40 (.agg #[.int .i64 a, .int .i64 b, .int .i64 c]) (.agg #[.int .i64 a, .int .i64 b, .int .i64 c])).run Tryd.prog w = .ok true w := eqArr a b c w
end Go.Proofs.YtebieflnlmdllaaDoor
