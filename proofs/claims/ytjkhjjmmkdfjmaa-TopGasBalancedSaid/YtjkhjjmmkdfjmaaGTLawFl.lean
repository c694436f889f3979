import Derived.Test.YtjkhjjmmkdfjmaaGTBeh2
import Derived.Test.YtjkhjjmmkdfjmaaGTFPlan
import Derived.Outline
import Derived.Test.YtjkhjjmmkdfjmaaGTAft
import Derived.Test.YtjkhjjmmkdfjmaaGTCopyV
namespace Go.Proofs.Ytjkhjjmmkdfjmaa
open Go.ChangeShapes Go.WideShapes Go.ChangeAt Go.RowKit
set_option linter.unusedVariables false
set_option linter.unusedSimpArgs false
attribute [local go_sem ↓] Go.wp_at_zero Go.wp_at_succ
def aL : List Ve := [⟨⟨#[98, 97, 110, 107]⟩, 50000, 300000⟩, ⟨⟨#[115, 49, 50]⟩, 12000, 232000⟩]
def aX : List Fl := [⟨0, 1, ⟨#[]⟩, ⟨#[98, 97, 110, 107]⟩, 210, 0, 10000000, false⟩, ⟨1, 1, ⟨#[98, 97, 110, 107]⟩, ⟨#[115, 49, 50]⟩, 0, 0, 1900000, false⟩]
def aR : Rm := ⟨[⟨⟨#[98, 97, 110, 107]⟩, 50000, 300000, 1701000, 0, 6399000⟩, ⟨⟨#[115, 49, 50]⟩, 12000, 232000, 399000, 0, 1501000⟩], 2100000, 0, 7900000, 0, 0, 0, 1⟩
theorem aD : behP aL aX = (0, 0) := by kernel_rfl
theorem aRun : runR (rm0 aL) aX = aR := by kernel_rfl
theorem Room_ex (w : World) : Calls Try.prog 54 #[] w fun e w' => e = .returned (.slice (some ⟨w.heap.size, 0, none⟩) 2 2) ∧ w.alloc (.cells #[.string ⟨#[98, 97, 110, 107]⟩, .int .i64 50000, .int .i64 300000, .string ⟨#[115, 49, 50]⟩, .int .i64 12000, .int .i64 232000] 69) = w' := by
  go_enter Try.func54, Try.ntmps54
  go_wp2
  go_ret
  exact ⟨rfl, rfl⟩
theorem Diary_ex (w : World) : Calls Try.prog 55 #[] w fun e w' => e = .returned (.slice (some ⟨w.heap.size, 0, none⟩) 2 2) ∧ w.alloc (.cells #[.int .i64 0, .int .i64 1, .string ⟨#[]⟩, .string ⟨#[98, 97, 110, 107]⟩, .int .i64 210, .int .i64 0, .int .i64 10000000, .bool false, .int .i64 1, .int .i64 1, .string ⟨#[98, 97, 110, 107]⟩, .string ⟨#[115, 49, 50]⟩, .int .i64 0, .int .i64 0, .int .i64 1900000, .bool false] 38) = w' := by
  go_enter Try.func55, Try.ntmps55
  go_wp2
  go_ret
  exact ⟨rfl, rfl⟩
/-- The task of the examples, with its sources in a block of their own. -/
def NitroxEx (w : World) (e : Ending) (w' : World) : Prop := ∃ b, e = .returned (.agg #[.slice (some ⟨b, 0, none⟩) 2 2, .int .i64 0, .int .i64 0, .int .i64 0, .int .i64 790, .int .i64 320, .int .i64 340, .int .i64 0, .int .i64 0]) ∧ w.heap.size ≤ b ∧ b < w'.heap.size ∧ (w'.cell? ⟨b, 0, none⟩ = some (.string ⟨#[97, 105, 114]⟩) ∧ w'.cell? ⟨b, 1, none⟩ = some (.int .i64 210) ∧ w'.cell? ⟨b, 2, none⟩ = some (.int .i64 0) ∧ w'.cell? ⟨b, 3, none⟩ = some (.int .i64 2) ∧ w'.cell? ⟨b, 4, none⟩ = some (.int .i64 10000) ∧ w'.cell? ⟨b, 5, none⟩ = some (.string ⟨#[111, 50]⟩) ∧ w'.cell? ⟨b, 6, none⟩ = some (.int .i64 1000) ∧ w'.cell? ⟨b, 7, none⟩ = some (.int .i64 0) ∧ w'.cell? ⟨b, 8, none⟩ = some (.int .i64 50) ∧ w'.cell? ⟨b, 9, none⟩ = some (.int .i64 5000)) ∧ Below w.heap.size w w'
theorem Nitrox_ex (w : World) : Calls Try.prog 57 #[] w (NitroxEx w) := by
  go_enter Try.func57, Try.ntmps57
  go_wp2
  refine bodyPost_ret (v := .agg #[.slice (some ⟨w.heap.size + 1, 0, none⟩) 2 2, .int .i64 0, .int .i64 0, .int .i64 0, .int .i64 790, .int .i64 320, .int .i64 340, .int .i64 0, .int .i64 0]) (by simp [results, Try.results57, go_sem]) rfl ⟨w.heap.size + 1, rfl, by omega, by simp, ?_, ?_⟩
  · refine ⟨(by simp [go_sem]), (by simp [go_sem]), (by simp [go_sem]), (by simp [go_sem]), (by simp [go_sem]), (by simp [go_sem]), (by simp [go_sem]), (by simp [go_sem]), (by simp [go_sem]), (by simp [go_sem])⟩
  · exact belA
end Go.Proofs.Ytjkhjjmmkdfjmaa

namespace Go.Proofs.Ytjkhjjmmkdfjmaa
open Go.ChangeShapes Go.WideShapes Go.ChangeAt Go.RowKit
set_option linter.unusedVariables false
set_option linter.unusedSimpArgs false
attribute [local go_sem ↓] Go.wp_at_zero Go.wp_at_succ
theorem dia_take : ∀ (X : List Fl) (r : Rm) (i : Nat) {N : Nat}, dia r X i = (N, 0) → ∀ k, dia r (X.take k) i = (0, 0)
  | [], _, _, _, _, k => by rw [List.take_nil]; rfl
  | x :: l, r, i, N, h, 0 => rfl
  | x :: l, r, i, N, h, k + 1 => by
    unfold dia at h
    rw [List.take_succ_cons]
    unfold dia
    by_cases h1 : stpE r x = 0
    · rw [if_pos h1] at h ⊢; exact dia_take l _ _ h k
    · rw [if_neg h1] at h; exact absurd (Prod.mk.inj h).2 h1
theorem behP_take {L : List Ve} {X : List Fl} {N : Nat} (h : behP L X = (N, 0)) (k : Nat) : behP L (X.take k) = (0, 0) := by
  unfold behP at h ⊢
  by_cases h1 : ctV L = 0
  · rw [if_pos h1] at h ⊢
    by_cases h2 : 200 < X.length
    · rw [if_pos h2] at h; exact absurd (Prod.mk.inj h).2 (by decide)
    · rw [if_neg h2] at h
      rw [if_neg (by rw [List.length_take]; omega)]
      exact dia_take X _ _ h k
  · rw [if_neg h1] at h; exact absurd (Prod.mk.inj h).2 h1
end Go.Proofs.Ytjkhjjmmkdfjmaa
