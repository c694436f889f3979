import Derived.Test.YtchfhhmmjioajaaRows
import Derived.WalkKit
import Derived.ProofKit
import Derived.OpenShut
import Derived.BigQuiet
import Derived.Deep.QuietTactic
import Derived.Deep.RegionHeld3
import Derived.Lib.Hide
import Derived.IntWalk
import Derived.WalkSmall
namespace Go.Proofs.Ytchfhhmmjioajaa
open Go.ChangeShapes Go.WideShapes Go.ChangeAt Go.RowKit
set_option linter.unusedVariables false

/-! ### PLAIN -/
def inB (n a b : Int) : Bool := decide (a ≤ n ∧ n ≤ b)
theorem inB_true {n a b : Int} (h1 : a ≤ n) (h2 : n ≤ b) : inB n a b = true := by unfold inB; simp [h1, h2]
theorem inB_f1 {n a b : Int} (h1 : ¬ a ≤ n) : inB n a b = false := by unfold inB; simp [h1]
theorem inB_f2 {n a b : Int} (h1 : ¬ n ≤ b) : inB n a b = false := by unfold inB; simp [h1]
theorem inB_iff {n a b : Int} : inB n a b = true ↔ a ≤ n ∧ n ≤ b := by unfold inB; simp
/-- The error of a number that must lie from a to b. -/
def rngE (n a b : Int) : Int := if inB n a b = true then 0 else 2
theorem rngE_t {n a b : Int} (h : inB n a b = true) : rngE n a b = 0 := by unfold rngE; simp [h]
theorem rngE_f {n a b : Int} (h : inB n a b = false) : rngE n a b = 2 := by unfold rngE; simp [h]
theorem inB_cases (n a b : Int) : inB n a b = true ∨ inB n a b = false := by cases inB n a b <;> simp

theorem ret_int {k : IntKind} {a b : Int} (h : a = b) : Ending.returned (.int k a) = .returned (.int k b) := by rw [h]
theorem ret_bool {a b : Bool} (h : a = b) : Ending.returned (.bool a) = .returned (.bool b) := by rw [h]
/-- What is left of old memory behind a call that only makes memory of its own. -/
theorem bcell {W w1 : World} (hb : Below W.heap.size W w1) : (∀ b o, b < W.heap.size → w1.cell? ⟨b, o, none⟩ = W.cell? ⟨b, o, none⟩) ∧ (∀ b o, b < W.heap.size → w1.frozen? ⟨b, o, none⟩ = W.frozen? ⟨b, o, none⟩) :=
  ⟨fun b o h => hb.cell (p := ⟨b, o, none⟩) h, fun b o h => hb.frozen (p := ⟨b, o, none⟩) h⟩

/-! ### WITHIN -/
theorem within_any (n a b : Int) (w : World) :
    Calls Try.prog 128 #[.int .i64 n, .int .i64 a, .int .i64 b] w fun e w' => e = .returned (.bool (inB n a b)) ∧ w = w' := by
  by_cases h1 : a ≤ n
  · by_cases h2 : n ≤ b
    · have h3 := inB_true h1 h2
      go_enter Try.func128, Try.ntmps128
      go_wp2
      go_ret
      exact ⟨by first | rfl | exact ret_bool h3.symm, rfl⟩
    · have h3 := inB_f2 (a := a) h2
      go_enter Try.func128, Try.ntmps128
      go_wp2
      go_ret
      exact ⟨by first | rfl | exact ret_bool h3.symm, rfl⟩
  · have h3 := inB_f1 (b := b) h1
    go_enter Try.func128, Try.ntmps128
    go_wp2
    go_ret
    exact ⟨by first | rfl | exact ret_bool h3.symm, rfl⟩
theorem baseWithin_any (n a b : Int) (w : World) :
    Calls Try.prog 18 #[.int .i64 n, .int .i64 a, .int .i64 b] w fun e w' => e = .returned (.bool (inB n a b)) ∧ w = w' := by
  by_cases h1 : a ≤ n
  · by_cases h2 : n ≤ b
    · have h3 := inB_true h1 h2
      go_enter Try.func18, Try.ntmps18
      go_wp2
      go_ret
      exact ⟨by first | rfl | exact ret_bool h3.symm, rfl⟩
    · have h3 := inB_f2 (a := a) h2
      go_enter Try.func18, Try.ntmps18
      go_wp2
      go_ret
      exact ⟨by first | rfl | exact ret_bool h3.symm, rfl⟩
  · have h3 := inB_f1 (b := b) h1
    go_enter Try.func18, Try.ntmps18
    go_wp2
    go_ret
    exact ⟨by first | rfl | exact ret_bool h3.symm, rfl⟩
/-! ### CHECKGAS -/
def gasE (o h : Int) : Int := if inB o 0 1000 = true ∧ inB h 0 1000 = true then (if o + h ≤ 1000 then 0 else 23) else 2
theorem CheckGas_any (o h : Int) (w : World) :
    Calls Try.prog 82 #[.agg #[.int .i64 o, .int .i64 h]] w fun e w' => e = .returned (.int .i64 (gasE o h)) ∧ w.alloc (.cells #[.int .i64 o, .int .i64 h] 38) = w' := by
  rcases inB_cases o 0 1000 with h1 | h1
  · rcases inB_cases h 0 1000 with h2 | h2
    · have b1 := inB_iff.1 h1
      have b2 := inB_iff.1 h2
      obtain ⟨c1, c2⟩ := b1
      obtain ⟨c3, c4⟩ := b2
      by_cases h3 : o + h ≤ 1000
      · have h4 : gasE o h = 0 := by unfold gasE; simp [h1, h2, h3]
        go_enter Try.func82, Try.ntmps82
        go_wp2_with (go_at_call 128; refine (within_any _ _ _ _).mono ?_; rintro e w' ⟨rfl, rfl⟩)
        go_ret
        exact ⟨by first | rfl | exact ret_int h4.symm, rfl⟩
      · have h4 : gasE o h = 23 := by unfold gasE; simp [h1, h2, h3]
        go_enter Try.func82, Try.ntmps82
        go_wp2_with (go_at_call 128; refine (within_any _ _ _ _).mono ?_; rintro e w' ⟨rfl, rfl⟩)
        go_ret
        exact ⟨by first | rfl | exact ret_int h4.symm, rfl⟩
    · have h4 : gasE o h = 2 := by unfold gasE; simp [h1, h2]
      go_enter Try.func82, Try.ntmps82
      go_wp2_with (go_at_call 128; refine (within_any _ _ _ _).mono ?_; rintro e w' ⟨rfl, rfl⟩)
      go_ret
      exact ⟨by first | rfl | exact ret_int h4.symm, rfl⟩
  · have h4 : gasE o h = 2 := by unfold gasE; simp [h1]
    go_enter Try.func82, Try.ntmps82
    go_wp2_with (go_at_call 128; refine (within_any _ _ _ _).mono ?_; rintro e w' ⟨rfl, rfl⟩)
    go_ret
    exact ⟨by first | rfl | exact ret_int h4.symm, rfl⟩
/-! ### FIRSTOF: the first error of a list -/
def firE : List Int → Int
  | [] => 0
  | e :: r => if e = 0 then firE r else e
theorem firE_z {l : List Int} : (∀ x ∈ l, x = 0) → firE l = 0 := by
  induction l with
  | nil => intro _; rfl
  | cons a r ih => intro h; unfold firE; rw [if_pos (h a (by simp))]; exact ih fun x hx => h x (by simp [hx])
theorem firE_at {l : List Int} {k : Nat} (hk : k < l.length) (hz : ∀ j, j < k → l.getD j 0 = 0) (hn : l.getD k 0 ≠ 0) : firE l = l.getD k 0 := by
  induction l generalizing k with
  | nil => simp at hk
  | cons a r ih =>
    cases k with
    | zero => unfold firE; simp at hn ⊢; simp [hn]
    | succ k =>
      have ha : a = 0 := by have := hz 0 (by omega); simpa using this
      unfold firE
      rw [if_pos ha]
      have := ih (k := k) (by simpa using hk) (fun j hj => by have := hz (j + 1) (by omega); simpa using this) (by simpa using hn)
      simpa using this
theorem quo_in (n d : Int) (h0 : 0 ≤ n) (h1 : n ≤ 2000000000000000000) (h2 : 0 < d) : IntKind.i64.wrap (n.tdiv d) = n / d := by
  rw [Int.tdiv_eq_ediv_of_nonneg h0]
  have a1 : 0 ≤ n / d := Int.ediv_nonneg h0 (by omega)
  have a2 : n / d ≤ n := Int.ediv_le_self _ h0
  exact IntWalk.i64_in _ (by omega)
theorem nitrogenOf_any (o h : Int) (w : World) (a1 : 0 ≤ o) (a2 : o ≤ 1000) (a3 : 0 ≤ h) (a4 : h ≤ 1000) :
    Calls Try.prog 155 #[.agg #[.int .i64 o, .int .i64 h]] w fun e w' => e = .returned (.int .i64 (1000 - o - h)) ∧ w.alloc (.cells #[.int .i64 o, .int .i64 h] 38) = w' := by
  go_enter Try.func155, Try.ntmps155
  go_wp2
  go_ret
  exact ⟨rfl, rfl⟩
end Go.Proofs.Ytchfhhmmjioajaa
