import Derived.Test.YtijdphlejokijaaESPFLeaf
import Derived.Deep.DrawnRows
import Derived.Deep.CutRange
import Derived.Lib.SmallJoins
import Derived.Outline
namespace Go.Proofs.Ytijdphlejokijaa
open Go.ChangeShapes Go.WideShapes Go.ChangeAt Go.RowKit
set_option linter.unusedVariables false
set_option linter.unusedSimpArgs false
attribute [local go_sem ↓] Go.wp_at_zero Go.wp_at_succ
/-- A letter; a byte of a name. -/
def letB (c : Int) : Bool := decide (97 ≤ c ∧ c ≤ 122 ∨ 65 ≤ c ∧ c ≤ 90)
def digB (c : Int) : Bool := decide (48 ≤ c ∧ c ≤ 57)
def nmcB (c : Int) : Bool := letB c || digB c || c == 45
/-- A byte of a text. -/
def byt (s : ByteArray) (j : Nat) : Int := ((s.data.toList.getD j 0).toNat : Int)
theorem byt_at {s : ByteArray} {j : Nat} (h : j < s.size) : byt s j = (s[j].toNat : Int) := by
  have h2 : j < s.data.toList.length := by simpa using h
  unfold byt
  rw [List.getD_eq_getElem?_getD, List.getElem?_eq_getElem h2]
  rfl
/-- All bytes may stand in a name. -/
def nmAll (s : ByteArray) : Bool := decide (∀ j, j < s.size → nmcB (byt s j) = true)
def nameB (s : ByteArray) : Bool := decide (1 ≤ s.size ∧ s.size ≤ 12) && letB (byt s 0) && nmAll s
theorem nmAll_t {s : ByteArray} (h : ∀ j, j < s.size → nmcB (byt s j) = true) : nmAll s = true := by unfold nmAll; simpa using h
theorem nmAll_f {s : ByteArray} {j : Nat} (hj : j < s.size) (h : nmcB (byt s j) = false) : nmAll s = false := by
  unfold nmAll
  rw [decide_eq_false_iff_not]
  intro hh
  rw [hh j hj] at h
  cases h
end Go.Proofs.Ytijdphlejokijaa
