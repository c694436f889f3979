import Derived.Test.YtojaompfffpofaaGreatZCSWnC
import Derived.Test.YtojaompfffpofaaGreatZCSAwk2
import Derived.Test.YtojaompfffpofaaGreatZCArg2
import Derived.Outline
import Derived.Test.YtojaompfffpofaaGreatZCSWay2
namespace Go.Proofs.YtojaompfffpofaaGreat
open Go.ChangeShapes Go.WideShapes Go.ChangeAt Go.RowKit
set_option linter.unusedVariables false
set_option linter.unusedSimpArgs false
attribute [local go_sem ↓] Go.wp_at_zero Go.wp_at_succ
theorem flatB_ok {Pl : List ByteArray} {M : List (List Int)} (h : flatB Pl M = true) : Pl.length ≤ 14 ∧ M.length ≤ 14 ∧ (∀ s ∈ Pl, s.size ≤ 20) ∧ (∀ r ∈ M, r.length ≤ 14) := by
  unfold flatB at h
  rw [Bool.and_eq_true, Bool.and_eq_true, List.all_eq_true, List.all_eq_true] at h
  obtain ⟨⟨h1, h2⟩, h3⟩ := h
  have h4 : (Pl.length ≤ 6 ∨ 12 < Pl.length) ∧ Pl.length ≤ 14 ∧ M.length ≤ 14 := by simpa using h1
  exact ⟨by omega, by omega, fun s hs => by simpa using h2 s hs, fun r hr => by simpa using h3 r hr⟩
theorem slsl_mat {w : World} {B : Option Addr} {M : List (List Int)} (h : SlSl (fun A0 L0 c0 => SlRows intV 1 w A0 L0 ∧ (∀ g ∈ L0, (fun _ => True) g) ∧ (A0 = none → c0 = 0) ∧ L0.length ≤ c0 ∧ c0 ≤ maxLen) w B M) : SlMatC w B M ∧ ∀ k, k < M.length → (M.getD k []).length ≤ 9223372036854775807 := by
  rcases h with h | ⟨b, off, h1, h2, h3⟩
  · exact ⟨Or.inl h, fun k hk => by rw [h] at hk; simp at hk⟩
  · exact ⟨Or.inr ⟨b, off, h1, h2, fun k hk => by obtain ⟨A, cap, h4, h5, _, h6, _⟩ := h3 k hk; exact ⟨A, cap, h4, h5, h6⟩⟩, fun k hk => by obtain ⟨A, cap, h4, h5, _, _, h6, h7⟩ := h3 k hk; unfold maxLen at h7; omega⟩
end Go.Proofs.YtojaompfffpofaaGreat

namespace Go.Proofs.YtojaompfffpofaaGreat
open Go.ChangeShapes Go.WideShapes Go.ChangeAt Go.RowKit
set_option linter.unusedVariables false
set_option linter.unusedSimpArgs false
attribute [local go_sem ↓] Go.wp_at_zero Go.wp_at_succ
theorem bw_is (n a b : Int) (x : Bool) (w : World) (hb : Hid (inB n a b = x)) : Calls Tryz.prog 23 #[.int .i64 n, .int .i64 a, .int .i64 b] w fun e w' => e = .returned (.bool x) ∧ w = w' := by
  rw [← hb.out]; exact baseWithin_any n a b w
theorem take_snocW {M : List (List Int)} {Q : List Int} {q : Nat} (h : q + 1 < Q.length) : wSum M (Q.take (q + 1 + 1)) = wSum M (Q.take (q + 1)) + stp M (Q.getD q 0) (Q.getD (q + 1) 0) ∧ (wOk M (Q.take (q + 1 + 1)) ↔ wOk M (Q.take (q + 1)) ∧ 0 ≤ stp M (Q.getD q 0) (Q.getD (q + 1) 0)) := by
  have e1 : Q.take (q + 1) = Q.take q ++ [Q.getD q 0] := by rw [getD_at (show q < Q.length by omega)]; simp [List.take_append_getElem]
  have e2 : Q.take (q + 1 + 1) = Q.take q ++ Q.getD q 0 :: [Q.getD (q + 1) 0] := by
    rw [← List.take_append_getElem h, e1, getD_at h]; simp
  rw [e2, wSum_app, wOk_app, ← e1]
  refine ⟨by simp [wSum], ?_⟩
  simp only [wOk, and_true]
end Go.Proofs.YtojaompfffpofaaGreat
