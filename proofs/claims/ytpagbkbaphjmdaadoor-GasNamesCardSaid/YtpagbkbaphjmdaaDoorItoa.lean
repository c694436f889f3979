/- What strconv.Itoa returns at a share of a gas; the text of a gas. -/
import Derived.Test.YtpagbkbaphjmdaaDoorShelf
import Derived.Test.YtpagbkbaphjmdaaDoorLeaf
import Derived.Lib.AppendIntMem
import Derived.Lib.LaidTab
namespace Go.Proofs.YtpagbkbaphjmdaaDoor
open Go.ChangeShapes Go.WideShapes Go.ChangeAt Go.RowKit
set_option linter.unusedVariables false

/-- The decimal digits of a number. -/
def dec (n : Int) : List UInt8 := Lib.decDigits n.toNat
abbrev TabOk (w : World) : Prop := Lib.TabIs Tryd.prog w "internal/strconv.uint64pow10" .u64 Lib.pow10Tab
theorem TabOk.below {w w' : World} (h : TabOk w) (hb : Below w.heap.size w w') : TabOk w' := Lib.tabBelow_of_tabIs h w' hb
theorem itoa_dec (n : Int) (w : World) (h0 : 0 ≤ n) (h1 : n ≤ 9223372036854775807) (hT : TabOk w) :
    Calls Tryd.prog 18 #[.int .i64 n] w fun e w' => e = .returned (.string ⟨(dec n).toArray⟩) ∧ Below w.heap.size w w' := by
  refine (Tryd.strconv_Itoa n (by omega) h1 w hT).mono fun _ _ h => ⟨?_, ?_⟩
  · rw [h.1]
    unfold dec Lib.itoa
    rw [if_neg (by omega)]
  · obtain ⟨k, os, rfl⟩ := h.2
    exact Lib.below_grow _ _ (Nat.le_refl _) _ _
theorem dec_fin : ∀ k : Fin 1001, (Lib.decDigits k.1).length ≤ 4 ∧ 1 ≤ (Lib.decDigits k.1).length ∧ (47 : UInt8) ∉ Lib.decDigits k.1 ∧ Lib.atoiAll (Lib.decDigits k.1) = .ok (k.1 : Int) := by decide +kernel
theorem dec_ok {n : Int} (h0 : 0 ≤ n) (h1 : n ≤ 1000) : (dec n).length ≤ 4 ∧ 1 ≤ (dec n).length ∧ (47 : UInt8) ∉ dec n ∧ Lib.atoiAll (dec n) = .ok n := by
  have := dec_fin ⟨n.toNat, by omega⟩
  unfold dec
  refine ⟨this.1, this.2.1, this.2.2.1, ?_⟩
  rw [this.2.2.2]
  congr 1
  show ((n.toNat : Nat) : Int) = n
  omega
end Go.Proofs.YtpagbkbaphjmdaaDoor
