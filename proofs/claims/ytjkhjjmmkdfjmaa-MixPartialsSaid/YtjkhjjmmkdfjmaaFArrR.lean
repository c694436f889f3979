/- Two arrays of three ranges are equal where they are the same. -/
import Derived.Test.YtjkhjjmmkdfjmaaLeaf
import Derived.ChangeKeysEq
import Derived.Laws.StructEq
namespace Go.Proofs.Ytjkhjjmmkdfjmaa
open Go.ChangeShapes Go.WideShapes Go.ChangeAt Go.RowKit

theorem partFa (a b c d e f : Int) (w : World) : (part 55 #[.int .i64 a, .int .i64 b, .int .i64 c, .int .i64 d, .int .i64 e, .int .i64 f] 0).run Try.prog w = .ok (.agg #[.int .i64 a, .int .i64 b]) w := by kernel_rfl
theorem partFb (a b c d e f : Int) (w : World) : (part 55 #[.int .i64 a, .int .i64 b, .int .i64 c, .int .i64 d, .int .i64 e, .int .i64 f] 2).run Try.prog w = .ok (.agg #[.int .i64 c, .int .i64 d]) w := by kernel_rfl
theorem partFc (a b c d e f : Int) (w : World) : (part 55 #[.int .i64 a, .int .i64 b, .int .i64 c, .int .i64 d, .int .i64 e, .int .i64 f] 4).run Try.prog w = .ok (.agg #[.int .i64 e, .int .i64 f]) w := by kernel_rfl
theorem part2a (a b : Int) (w : World) : (part 3 #[.int .i64 a, .int .i64 b] 0).run Try.prog w = .ok (.int .i64 a) w := by kernel_rfl
theorem part2b (a b : Int) (w : World) : (part 3 #[.int .i64 a, .int .i64 b] 1).run Try.prog w = .ok (.int .i64 b) w := by kernel_rfl
theorem undI2 (w : World) : (underlying 3).run Try.prog w = .ok (.int .i64) w := by kernel_rfl
theorem eqInt2 (d : Nat) (a : Int) (w : World) : (Op.equalIn (d + 1) 3 (.int .i64 a) (.int .i64 a)).run Try.prog w = .ok true w := by
  simp only [Op.equalIn, Sem.run_bind, undI2, Result.andThen]
  simp
theorem eqF2 (d : Nat) (a b : Int) (w : World) {fs : List Field} (h : fs.map (fun f => (decide (f.name = "_"), f.type, f.offset)) = [(false, 3, 0), (false, 3, 1)]) :
    (Op.eqFields (d + 1) #[.int .i64 a, .int .i64 b] #[.int .i64 a, .int .i64 b] fs).run Try.prog w = .ok true w := by
  match fs, h with
  | [], h => simp at h
  | [_], h => simp at h
  | _ :: _ :: _ :: _, h => simp at h
  | [f, g], h =>
    simp at h
    obtain ⟨⟨h1, h2, h3⟩, h4, h5, h6⟩ := h
    simp [Op.eqFields, Sem.run_bind, h1, h2, h3, h4, h5, h6, part2a, part2b, eqInt2]
theorem eqFrac (d : Nat) (a b : Int) (w : World) : (Op.equalIn (d + 1 + 1) 55 (.agg #[.int .i64 a, .int .i64 b]) (.agg #[.int .i64 a, .int .i64 b])).run Try.prog w = .ok true w := by
  rw [run_equalIn_struct w (d + 1) 55 _ _ (by kernel_rfl) (by kernel_rfl)]
  exact eqF2 d a b w (by kernel_rfl)
theorem infoF : ∃ i, Try.prog.info? 55 = some i := Option.isSome_iff_exists.1 (by kernel_rfl)
theorem cellsF : Try.prog.cellsOf 55 = 2 := by kernel_rfl
theorem eqArrF (a b c d e f : Int) (w : World) : (Op.equalIn 10000 82 (.agg #[.int .i64 a, .int .i64 b, .int .i64 c, .int .i64 d, .int .i64 e, .int .i64 f]) (.agg #[.int .i64 a, .int .i64 b, .int .i64 c, .int .i64 d, .int .i64 e, .int .i64 f])).run Try.prog w = .ok true w := by
  obtain ⟨i, hi⟩ := infoF
  have h := run_equalIn_array (P := Try.prog) (w := w) 9999 (t := 82) (e := 55) (n := 3) #[.int .i64 a, .int .i64 b, .int .i64 c, .int .i64 d, .int .i64 e, .int .i64 f] #[.int .i64 a, .int .i64 b, .int .i64 c, .int .i64 d, .int .i64 e, .int .i64 f] Try.underlying82 hi
  refine h.trans ?_
  rw [cellsF, show List.range 3 = [0, 1, 2] from rfl]
  simp [Op.eqItems, Sem.run_bind, partFa, partFb, partFc, eqFrac 9997]
end Go.Proofs.Ytjkhjjmmkdfjmaa
