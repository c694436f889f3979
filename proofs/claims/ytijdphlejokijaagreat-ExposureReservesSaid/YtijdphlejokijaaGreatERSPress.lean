import Derived.Test.YtijdphlejokijaaGreatERSLeaf
import Derived.LoopN
import Derived.Outline
namespace Go.Proofs.YtijdphlejokijaaGreat
open Go.ChangeShapes Go.WideShapes Go.ChangeAt Go.RowKit
set_option linter.unusedVariables false

theorem firE2_z {x y : Int} (h : firE [x, y] = 0) : x = 0 ∧ y = 0 := by
  simp only [firE] at h
  split at h
  · split at h
    · exact ⟨‹_›, ‹_›⟩
    · exact absurd h ‹_›
  · exact absurd h ‹_›
theorem rngE_z {n a b : Int} (h : rngE n a b = 0) : a ≤ n ∧ n ≤ b := by
  rcases inB_cases n a b with k | k
  · exact inB_iff.1 k
  · rw [rngE_f k] at h; omega
theorem gasE_z {o h : Int} (k : gasE o h = 0) : 0 ≤ o ∧ o ≤ 1000 ∧ 0 ≤ h ∧ h ≤ 1000 ∧ o + h ≤ 1000 := by
  unfold gasE at k
  split at k
  · obtain ⟨k1, k2⟩ := ‹_ ∧ _›
    have := inB_iff.1 k1
    have := inB_iff.1 k2
    split at k <;> omega
  · omega
theorem limE_z {a b : Int} (k : limE a b = 0) : 1 ≤ a ∧ a ≤ 4000 ∧ 1 ≤ b ∧ b ≤ 4000 ∧ a ≤ b := by
  unfold limE at k
  split at k
  · obtain ⟨k1, k2⟩ := firE2_z (x := rngE a 1 4000) (y := rngE b 1 4000) ‹_›
    have := rngE_z k1
    have := rngE_z k2
    split at k <;> omega
  · exact absurd k ‹_›
end Go.Proofs.YtijdphlejokijaaGreat

namespace Go.Proofs.YtijdphlejokijaaGreat
open Go.ChangeShapes Go.WideShapes Go.ChangeAt Go.RowKit
set_option linter.unusedVariables false

def paE (o h p : Int) : Int := firE [gasE o h, rngE p 0 100000]
set_option maxHeartbeats 1000000 in
theorem Partial_t2 (o h p : Int) (w : World) (hb : (paE o h p != 0) = false) (k1 : 0 ≤ o) (k2 : o ≤ 1000) (k3 : 0 ≤ h) (k4 : h ≤ 1000) (k5 : 0 ≤ p) (k6 : p ≤ 100000) (k7 : o + h ≤ 1000) :
    Calls Tryz.prog 96 #[.agg #[.int .i64 o, .int .i64 h], .int .i64 p] w fun e w' => e = .returned (.tuple #[.agg #[.int .i64 (o * p), .int .i64 (h * p), .int .i64 ((1000 - o - h) * p)], .int .i64 0]) ∧ Below w.heap.size w w' := by
  unfold paE at hb
  have bd : ∀ x : Int, 0 ≤ x → x ≤ 1000 → 0 ≤ x * p ∧ x * p ≤ 100000000 := fun x h0 h1 => ⟨Int.mul_nonneg h0 k5, Int.le_trans (Int.mul_le_mul h1 k6 k5 (by omega)) (by omega)⟩
  have u1 : IntKind.i64.wrap (o * p) = o * p := IntWalk.i64_in _ (by have := bd o k1 k2; omega)
  have u2 : IntKind.i64.wrap (h * p) = h * p := IntWalk.i64_in _ (by have := bd h k3 k4; omega)
  have u3 : IntKind.i64.wrap ((1000 - o - h) * p) = (1000 - o - h) * p := IntWalk.i64_in _ (by have := bd (1000 - o - h) (by omega) (by omega); omega)
  clear bd
  go_enter Tryz.func96, Tryz.ntmps96
  go_wp2_with (first | (go_at_call 47; ((with_reducible refine (CheckGas_any _ _ _).mono ?_)); rintro e w' ⟨rfl, rfl⟩) | (go_at_call 101; ((with_reducible refine (checkPressure_any _ _).mono ?_)); rintro e w' ⟨rfl, rfl⟩) | (go_at_call 85; ((with_reducible refine (firstOf2c (gasE o h) (rngE p 0 100000) _ _ (by simp [go_sem]) (by simp [go_sem])).mono ?_)); rintro e w' ⟨rfl, rfl⟩) | (go_at_call 111; ((with_reducible refine (partsOf_any _ _ _ k1 k2 k3 k4).mono ?_)); rintro e w' ⟨rfl, rfl⟩))
  refine wp_loop_rounds 4 ?_
  rw [rounds_succ]
  go_wp2
  rw [rounds_succ]
  go_wp2
  rw [rounds_succ]
  go_wp2
  rw [rounds_succ]
  go_wp2
  refine bodyPost_ret (v := .tuple #[.agg #[.int .i64 (o * p), .int .i64 (h * p), .int .i64 ((1000 - o - h) * p)], .int .i64 0]) (by simp [results, Tryz.results96, go_sem]) rfl ⟨rfl, (by (repeat (first | (with_reducible refine Below.drew ?_) | (with_reducible refine below_drewN ?_ _) | (with_reducible refine Below.alloc ?_ (by first | omega | (simp; done) | (simp; omega) | (simp at *; omega)) _) | (with_reducible refine Below.setCell ?_ (by first | omega | (simp; done) | (simp; omega) | (simp at *; omega)) _) | (with_reducible exact Below.refl _ _) | (with_reducible assumption) | (with_reducible refine Below.trans ?_ (Below.mono (by assumption) (by first | omega | (simp; done) | (simp; omega) | (simp at *; omega)))))))⟩
end Go.Proofs.YtijdphlejokijaaGreat
