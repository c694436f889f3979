import Derived.Test.YtojaompfffpofaaGreatZBSChart
import Derived.Outline
namespace Go.Proofs.YtojaompfffpofaaGreat
open Go.ChangeShapes Go.WideShapes Go.ChangeAt Go.RowKit
set_option linter.unusedVariables false
set_option linter.unusedSimpArgs false
attribute [local go_sem ↓] Go.wp_at_zero Go.wp_at_succ
attribute [local go_sem] run_store_fn
/-- The first error of n numbers. -/
def fsN (f : Nat → Int) : Nat → Int
  | 0 => 0
  | k + 1 => if fsN f k = 0 then f k else fsN f k
theorem fsN_stop {f : Nat → Int} {k : Nat} (hz : fsN f k = 0) (hn : f k ≠ 0) : ∀ n, k < n → fsN f n = f k
  | 0, h => by omega
  | n + 1, h => by
    by_cases e : n = k
    · subst e; rw [fsN, if_pos hz]
    · rw [fsN, fsN_stop hz hn n (by omega), if_neg hn]
theorem fsN_on {f : Nat → Int} {k : Nat} (hz : fsN f k = 0) (hn : f k = 0) : fsN f (k + 1) = 0 := by rw [fsN, if_pos hz, hn]
theorem fsN_all {f : Nat → Int} : ∀ {k : Nat}, fsN f k = 0 → ∀ j, j < k → f j = 0
  | 0, _, j, hj => by omega
  | k + 1, h, j, hj => by
    rw [fsN] at h
    by_cases h0 : fsN f k = 0
    · rw [if_pos h0] at h
      by_cases e : j = k
      · rw [e]; exact h
      · exact fsN_all h0 j (by omega)
    · rw [if_neg h0] at h; exact absurd h h0
/-- The error of a number of a chart; of a row; of all. -/
def celE (i j : Nat) (x : Int) : Int := if rngE x (-1) 10000 = 0 then (if i = j ∧ x ≠ 0 then 3 else 0) else 2
def rowE (M : List (List Int)) (n i : Nat) : Int := fsN (fun j => celE i j (mAt M i j)) n
def minsE (M : List (List Int)) (n : Nat) : Int := fsN (rowE M n) n
def othB (n : Nat) (M : List (List Int)) : Bool := M.any (fun r => decide (r.length ≠ n))
def chtE (Pl : List ByteArray) (M : List (List Int)) : Int := if 12 < Pl.length then 8 else if nmlE [] Pl = 0 then (if M.length ≠ Pl.length ∨ othB Pl.length M = true then 10 else minsE M Pl.length) else nmlE [] Pl
theorem othB_f {n : Nat} {M : List (List Int)} (h : ∀ k, k < M.length → (M.getD k []).length = n) : othB n M = false := by
  unfold othB
  rw [List.any_eq_false]
  intro r hr
  obtain ⟨k, hk, rfl⟩ := List.getElem_of_mem hr
  have := h k hk
  rw [getD_at hk] at this
  simpa using this
theorem othB_t {n k : Nat} {M : List (List Int)} (hk : k < M.length) (h : (M.getD k []).length ≠ n) : othB n M = true := by
  unfold othB
  rw [List.any_eq_true]
  rw [getD_at hk] at h
  exact ⟨M[k], List.getElem_mem hk, decide_eq_true h⟩
theorem othB_row {n : Nat} {M : List (List Int)} (h : othB n M = false) : ∀ k, k < M.length → (M.getD k []).length = n := by
  intro k hk
  by_cases e : (M.getD k []).length = n
  · exact e
  · rw [othB_t hk e] at h; cases h
/-- A square of numbers in memory. -/
structure SqAt (w : World) (B : Option Addr) (n : Nat) (M : List (List Int)) : Prop where
  len : M.length = n
  row : ∀ i, i < n → (M.getD i []).length = n
  mn : SlMat w B M
theorem SqAt.below {w w' : World} {B : Option Addr} {n : Nat} {M : List (List Int)} (h : SqAt w B n M) (hb : Below w.heap.size w w') : SqAt w' B n M := ⟨h.len, h.row, h.mn.below hb⟩
theorem SqAt.at {w : World} {B : Option Addr} {n : Nat} {M : List (List Int)} (h : SqAt w B n M) {i : Nat} (hi : i < n) : ∃ b off c o cap, B = some ⟨b, off, none⟩ ∧ b < w.heap.size ∧ w.cell? ⟨b, off + i, none⟩ = some (.slice (some ⟨c, o, none⟩) n cap) ∧ c < w.heap.size ∧ ∀ j, j < n → w.cell? ⟨c, o + j, none⟩ = some (.int .i64 (mAt M i j)) := by
  have hi2 : i < M.length := by rw [h.len]; exact hi
  have hl := h.row i hi
  rcases h.mn with h0 | ⟨b, off, rfl, hlt, hM⟩
  · rw [h0] at hi2; simp at hi2
  obtain ⟨C, cap, h1, h2⟩ := hM i hi2
  rw [hl] at h1
  rcases h2 with h0 | ⟨c, o, rfl, hc, hR⟩
  · rw [h0] at hl; simp at hl; omega
  refine ⟨b, off, c, o, cap, rfl, hlt, h1, hc, fun j hj => ?_⟩
  have hj2 : j < (M.getD i []).length := by rw [hl]; exact hj
  have := hR j hj2 0 (by omega)
  rw [show (intV (M.getD i [])[j])[0]? = some (.int .i64 (M.getD i [])[j]) from rfl, Nat.add_zero, Nat.mul_one] at this
  rw [this]; unfold mAt; rw [getD_at hj2]
end Go.Proofs.YtojaompfffpofaaGreat
