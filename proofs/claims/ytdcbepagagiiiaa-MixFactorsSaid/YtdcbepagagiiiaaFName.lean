/- Names: check.isLetter, isDigit, Name for right names. -/
import Derived.Test.YtdcbepagagiiiaaFLeaf
import Derived.Deep.DrawnRows
import Derived.Deep.CutRange
import Derived.Lib.SmallJoins
import Derived.Outline
namespace Go.Proofs.Ytdcbepagagiiiaa
open Go.ChangeShapes Go.WideShapes Go.ChangeAt Go.RowKit
set_option linter.unusedVariables false
set_option linter.unusedSimpArgs false
attribute [local go_sem ↓] Go.wp_at_zero Go.wp_at_succ
/-- A letter; a byte of a name. -/
def letB (c : Int) : Bool := decide (97 ≤ c ∧ c ≤ 122 ∨ 65 ≤ c ∧ c ≤ 90)
def digB (c : Int) : Bool := decide (48 ≤ c ∧ c ≤ 57)
def nmcB (c : Int) : Bool := letB c || digB c || c == 45
theorem isLetter_any (c : Int) (w : World) : Calls Try.prog 92 #[.int .u8 c] w fun e w' => e = .returned (.bool (letB c)) ∧ w = w' := by
  go_enter Try.func92, Try.ntmps92
  go_wp2
  all_goals
    go_ret
    exact ⟨ret_bool (by unfold letB; first | rfl | (rw [Bool.eq_iff_iff]; simp; omega)), rfl⟩
theorem isDigit_any (c : Int) (w : World) : Calls Try.prog 95 #[.int .u8 c] w fun e w' => e = .returned (.bool (digB c)) ∧ w = w' := by
  go_enter Try.func95, Try.ntmps95
  go_wp2
  all_goals
    go_ret
    exact ⟨ret_bool (by unfold digB; first | rfl | (rw [Bool.eq_iff_iff]; simp; omega)), rfl⟩
theorem isLetter_t (c : Int) (w : World) (h : letB c = true) : Calls Try.prog 92 #[.int .u8 c] w fun e w' => e = .returned (.bool true) ∧ w = w' := by
  have := isLetter_any c w
  rw [h] at this
  exact this
theorem nameByte_t (c : Int) (w : World) (hh : nmcB c = true) : Calls Try.prog 94 #[.int .u8 c] w fun e w' => e = .returned (.int .i64 0) ∧ w = w' := by
  unfold nmcB at hh
  by_cases h1 : letB c = true
  · clear hh
    go_enter Try.func94, Try.ntmps94
    go_wp2_with (first | (go_at_call 92; ((with_reducible refine (isLetter_any _ _).mono ?_)); rintro e w' ⟨rfl, rfl⟩) | (go_at_call 95; ((with_reducible refine (isDigit_any _ _).mono ?_)); rintro e w' ⟨rfl, rfl⟩))
    go_ret
    exact ⟨rfl, rfl⟩
  · have h1' : letB c = false := by simpa using h1
    by_cases h2 : digB c = true
    · clear hh h1
      go_enter Try.func94, Try.ntmps94
      go_wp2_with (first | (go_at_call 92; ((with_reducible refine (isLetter_any _ _).mono ?_)); rintro e w' ⟨rfl, rfl⟩) | (go_at_call 95; ((with_reducible refine (isDigit_any _ _).mono ?_)); rintro e w' ⟨rfl, rfl⟩))
      go_ret
      exact ⟨rfl, rfl⟩
    · have h2' : digB c = false := by simpa using h2
      have h3 : c = 45 := by rw [h1', h2'] at hh; simpa using hh
      subst h3
      clear hh h1 h2
      go_enter Try.func94, Try.ntmps94
      go_wp2_with (first | (go_at_call 92; ((with_reducible refine (isLetter_any _ _).mono ?_)); rintro e w' ⟨rfl, rfl⟩) | (go_at_call 95; ((with_reducible refine (isDigit_any _ _).mono ?_)); rintro e w' ⟨rfl, rfl⟩))
      go_ret
      exact ⟨rfl, rfl⟩
theorem eachByte2 (c0 c1 : Int) (b cap : Nat) (w : World) (h0 : w.cell? ⟨b, 0, none⟩ = some (.int .u8 c0)) (n0 : nmcB c0 = true) (h1 : w.cell? ⟨b, 1, none⟩ = some (.int .u8 c1)) (n1 : nmcB c1 = true) :
    Calls Try.prog 93 #[.slice (some ⟨b, 0, none⟩) 2 cap, .func (.func 94) #[] #[]] w fun e w' => e = .returned (.int .i64 0) ∧ w = w' := by
  have N0 := Lib.hid n0; have N1 := Lib.hid n1
  clear n0 n1
  go_enter Try.func93, Try.ntmps93
  go_wp2
  refine wp_loop_rounds 3 ?_
  rw [rounds_succ]
  go_wp2_with ((go_at_call 94; ((with_reducible refine (nameByte_t _ _ N0.out).mono ?_)); rintro e w' ⟨rfl, rfl⟩))
  rw [rounds_succ]
  go_wp2_with ((go_at_call 94; ((with_reducible refine (nameByte_t _ _ N1.out).mono ?_)); rintro e w' ⟨rfl, rfl⟩))
  rw [rounds_succ]
  go_wp2
  go_ret
  exact ⟨rfl, rfl⟩
theorem eachByte3 (c0 c1 c2 : Int) (b cap : Nat) (w : World) (h0 : w.cell? ⟨b, 0, none⟩ = some (.int .u8 c0)) (n0 : nmcB c0 = true) (h1 : w.cell? ⟨b, 1, none⟩ = some (.int .u8 c1)) (n1 : nmcB c1 = true) (h2 : w.cell? ⟨b, 2, none⟩ = some (.int .u8 c2)) (n2 : nmcB c2 = true) :
    Calls Try.prog 93 #[.slice (some ⟨b, 0, none⟩) 3 cap, .func (.func 94) #[] #[]] w fun e w' => e = .returned (.int .i64 0) ∧ w = w' := by
  have N0 := Lib.hid n0; have N1 := Lib.hid n1; have N2 := Lib.hid n2
  clear n0 n1 n2
  go_enter Try.func93, Try.ntmps93
  go_wp2
  refine wp_loop_rounds 4 ?_
  rw [rounds_succ]
  go_wp2_with ((go_at_call 94; ((with_reducible refine (nameByte_t _ _ N0.out).mono ?_)); rintro e w' ⟨rfl, rfl⟩))
  rw [rounds_succ]
  go_wp2_with ((go_at_call 94; ((with_reducible refine (nameByte_t _ _ N1.out).mono ?_)); rintro e w' ⟨rfl, rfl⟩))
  rw [rounds_succ]
  go_wp2_with ((go_at_call 94; ((with_reducible refine (nameByte_t _ _ N2.out).mono ?_)); rintro e w' ⟨rfl, rfl⟩))
  rw [rounds_succ]
  go_wp2
  go_ret
  exact ⟨rfl, rfl⟩
theorem eachByte4 (c0 c1 c2 c3 : Int) (b cap : Nat) (w : World) (h0 : w.cell? ⟨b, 0, none⟩ = some (.int .u8 c0)) (n0 : nmcB c0 = true) (h1 : w.cell? ⟨b, 1, none⟩ = some (.int .u8 c1)) (n1 : nmcB c1 = true) (h2 : w.cell? ⟨b, 2, none⟩ = some (.int .u8 c2)) (n2 : nmcB c2 = true) (h3 : w.cell? ⟨b, 3, none⟩ = some (.int .u8 c3)) (n3 : nmcB c3 = true) :
    Calls Try.prog 93 #[.slice (some ⟨b, 0, none⟩) 4 cap, .func (.func 94) #[] #[]] w fun e w' => e = .returned (.int .i64 0) ∧ w = w' := by
  have N0 := Lib.hid n0; have N1 := Lib.hid n1; have N2 := Lib.hid n2; have N3 := Lib.hid n3
  clear n0 n1 n2 n3
  go_enter Try.func93, Try.ntmps93
  go_wp2
  refine wp_loop_rounds 5 ?_
  rw [rounds_succ]
  go_wp2_with ((go_at_call 94; ((with_reducible refine (nameByte_t _ _ N0.out).mono ?_)); rintro e w' ⟨rfl, rfl⟩))
  rw [rounds_succ]
  go_wp2_with ((go_at_call 94; ((with_reducible refine (nameByte_t _ _ N1.out).mono ?_)); rintro e w' ⟨rfl, rfl⟩))
  rw [rounds_succ]
  go_wp2_with ((go_at_call 94; ((with_reducible refine (nameByte_t _ _ N2.out).mono ?_)); rintro e w' ⟨rfl, rfl⟩))
  rw [rounds_succ]
  go_wp2_with ((go_at_call 94; ((with_reducible refine (nameByte_t _ _ N3.out).mono ?_)); rintro e w' ⟨rfl, rfl⟩))
  rw [rounds_succ]
  go_wp2
  go_ret
  exact ⟨rfl, rfl⟩
set_option maxRecDepth 100000 in
theorem Name_bank (w : World) : Calls Try.prog 88 #[.string ⟨#[98, 97, 110, 107]⟩] w fun e w' => e = .returned (.int .i64 0) ∧ Below w.heap.size w w' := by
  have hw : inB 4 1 12 = true := by decide
  have hcv : ∀ w : World, (convert 9 157 (.string ⟨#[98, 97, 110, 107]⟩)).run Try.prog w = .ok (.slice (some ⟨w.heap.size, 0, none⟩) 4 (grownCap w 4 0 5)) (Lib.bytesWorld w 5 ⟨#[98, 97, 110, 107]⟩) := fun w => Lib.run_convert_string_bytes (P := Try.prog) w 9 157 5 ⟨#[98, 97, 110, 107]⟩ (u := .string) Try.underlying9 Try.underlying157 Try.underlying5
  go_enter Try.func88, Try.ntmps88
  go_wp2_with (first | (go_at_call 44; ((with_reducible refine (cWithin_any _ _ _ _).mono ?_)); rintro e w' ⟨rfl, rfl⟩) | (go_at_call 92; ((with_reducible refine (isLetter_t _ _ (by decide)).mono ?_)); rintro e w' ⟨rfl, rfl⟩))
  go_wp2_with fail
  refine (eachByte4 98 97 110 107 _ _ _ (Lib.bytesWorld_cell _ _ _ 0 (by decide)) (by decide) (Lib.bytesWorld_cell _ _ _ 1 (by decide)) (by decide) (Lib.bytesWorld_cell _ _ _ 2 (by decide)) (by decide) (Lib.bytesWorld_cell _ _ _ 3 (by decide)) (by decide)).mono ?_
  rintro e w1 ⟨rfl, rfl⟩
  go_wp2
  go_ret
  exact ⟨rfl, Joins.below_bytesWorld _ _ _ _ (Nat.le_refl _)⟩
set_option maxRecDepth 100000 in
theorem Name_s12 (w : World) : Calls Try.prog 88 #[.string ⟨#[115, 49, 50]⟩] w fun e w' => e = .returned (.int .i64 0) ∧ Below w.heap.size w w' := by
  have hw : inB 3 1 12 = true := by decide
  have hcv : ∀ w : World, (convert 9 157 (.string ⟨#[115, 49, 50]⟩)).run Try.prog w = .ok (.slice (some ⟨w.heap.size, 0, none⟩) 3 (grownCap w 3 0 5)) (Lib.bytesWorld w 5 ⟨#[115, 49, 50]⟩) := fun w => Lib.run_convert_string_bytes (P := Try.prog) w 9 157 5 ⟨#[115, 49, 50]⟩ (u := .string) Try.underlying9 Try.underlying157 Try.underlying5
  go_enter Try.func88, Try.ntmps88
  go_wp2_with (first | (go_at_call 44; ((with_reducible refine (cWithin_any _ _ _ _).mono ?_)); rintro e w' ⟨rfl, rfl⟩) | (go_at_call 92; ((with_reducible refine (isLetter_t _ _ (by decide)).mono ?_)); rintro e w' ⟨rfl, rfl⟩))
  go_wp2_with fail
  refine (eachByte3 115 49 50 _ _ _ (Lib.bytesWorld_cell _ _ _ 0 (by decide)) (by decide) (Lib.bytesWorld_cell _ _ _ 1 (by decide)) (by decide) (Lib.bytesWorld_cell _ _ _ 2 (by decide)) (by decide)).mono ?_
  rintro e w1 ⟨rfl, rfl⟩
  go_wp2
  go_ret
  exact ⟨rfl, Joins.below_bytesWorld _ _ _ _ (Nat.le_refl _)⟩
set_option maxRecDepth 100000 in
theorem Name_air (w : World) : Calls Try.prog 88 #[.string ⟨#[97, 105, 114]⟩] w fun e w' => e = .returned (.int .i64 0) ∧ Below w.heap.size w w' := by
  have hw : inB 3 1 12 = true := by decide
  have hcv : ∀ w : World, (convert 9 157 (.string ⟨#[97, 105, 114]⟩)).run Try.prog w = .ok (.slice (some ⟨w.heap.size, 0, none⟩) 3 (grownCap w 3 0 5)) (Lib.bytesWorld w 5 ⟨#[97, 105, 114]⟩) := fun w => Lib.run_convert_string_bytes (P := Try.prog) w 9 157 5 ⟨#[97, 105, 114]⟩ (u := .string) Try.underlying9 Try.underlying157 Try.underlying5
  go_enter Try.func88, Try.ntmps88
  go_wp2_with (first | (go_at_call 44; ((with_reducible refine (cWithin_any _ _ _ _).mono ?_)); rintro e w' ⟨rfl, rfl⟩) | (go_at_call 92; ((with_reducible refine (isLetter_t _ _ (by decide)).mono ?_)); rintro e w' ⟨rfl, rfl⟩))
  go_wp2_with fail
  refine (eachByte3 97 105 114 _ _ _ (Lib.bytesWorld_cell _ _ _ 0 (by decide)) (by decide) (Lib.bytesWorld_cell _ _ _ 1 (by decide)) (by decide) (Lib.bytesWorld_cell _ _ _ 2 (by decide)) (by decide)).mono ?_
  rintro e w1 ⟨rfl, rfl⟩
  go_wp2
  go_ret
  exact ⟨rfl, Joins.below_bytesWorld _ _ _ _ (Nat.le_refl _)⟩
set_option maxRecDepth 100000 in
theorem Name_o2 (w : World) : Calls Try.prog 88 #[.string ⟨#[111, 50]⟩] w fun e w' => e = .returned (.int .i64 0) ∧ Below w.heap.size w w' := by
  have hw : inB 2 1 12 = true := by decide
  have hcv : ∀ w : World, (convert 9 157 (.string ⟨#[111, 50]⟩)).run Try.prog w = .ok (.slice (some ⟨w.heap.size, 0, none⟩) 2 (grownCap w 2 0 5)) (Lib.bytesWorld w 5 ⟨#[111, 50]⟩) := fun w => Lib.run_convert_string_bytes (P := Try.prog) w 9 157 5 ⟨#[111, 50]⟩ (u := .string) Try.underlying9 Try.underlying157 Try.underlying5
  go_enter Try.func88, Try.ntmps88
  go_wp2_with (first | (go_at_call 44; ((with_reducible refine (cWithin_any _ _ _ _).mono ?_)); rintro e w' ⟨rfl, rfl⟩) | (go_at_call 92; ((with_reducible refine (isLetter_t _ _ (by decide)).mono ?_)); rintro e w' ⟨rfl, rfl⟩))
  go_wp2_with fail
  refine (eachByte2 111 50 _ _ _ (Lib.bytesWorld_cell _ _ _ 0 (by decide)) (by decide) (Lib.bytesWorld_cell _ _ _ 1 (by decide)) (by decide)).mono ?_
  rintro e w1 ⟨rfl, rfl⟩
  go_wp2
  go_ret
  exact ⟨rfl, Joins.below_bytesWorld _ _ _ _ (Nat.le_refl _)⟩
end Go.Proofs.Ytdcbepagagiiiaa
