import Derived.Test.YtgidmmmdpmophaaRSFERule
import Derived.Test.YtgidmmmdpmophaaRSFEFol
import Derived.Test.YtgidmmmdpmophaaRSFLeaf
import Derived.LoopN
import Derived.Outline
import Derived.BigQuiet
import Derived.Deep.CutRange
import Derived.Deep.CutBlock
import Derived.OrdersHeld
import Derived.Deep.RegionHeld
namespace Go.Proofs.Ytgidmmmdpmophaa
open Go.ChangeShapes Go.WideShapes Go.ChangeAt Go.RowKit
set_option linter.unusedVariables false
set_option linter.unusedSimpArgs false
attribute [local go_sem ↓] Go.wp_at_zero Go.wp_at_succ
/-- A leg with where it begins. -/
structure Pl where
  s : Int
  d : Int
  g : Int
  nu : Int
  bs : Int
  bd : Int
  su : Int
  o : Int
  h : Int
/-- A right one. -/
structure PlOk (x : Pl) : Prop where
  s : 1 ≤ x.s ∧ x.s ≤ 1000000
  d : 0 ≤ x.d ∧ x.d ≤ 30000
  bd : 0 ≤ x.bd ∧ x.bd ≤ 30000
  bs : 0 ≤ x.bs ∧ x.bs ≤ 1000000
  su : 400 ≤ x.su ∧ x.su ≤ 1100
  ga : gasE x.o x.h = 0
def upE (n d : Int) : Int := (n + d - 1) / d
theorem upE_bd {n d : Int} (n0 : 0 ≤ n) (d1 : 1 ≤ d) : 0 ≤ upE n d ∧ upE n d ≤ n := by
  unfold upE
  refine ⟨Int.ediv_nonneg (by omega) (by omega), ?_⟩
  have h1 : n + d - 1 ≤ n * d + (d - 1) := by
    have : n * 1 ≤ n * d := Int.mul_le_mul_of_nonneg_left d1 n0
    omega
  have h2 : (n * d + (d - 1)) / d = n := by
    rw [Int.add_comm, Int.add_mul_ediv_right _ _ (by omega), Int.ediv_eq_zero_of_lt (by omega) (by omega)]; omega
  exact Int.le_trans (Int.ediv_le_ediv (by omega) h1) (Int.le_of_eq h2)
theorem dividedUp_is (n d q : Int) (w : World) (n0 : 0 ≤ n) (n1 : n ≤ 9000000000000000000) (d1 : 1 ≤ d) (d2 : d ≤ 1000000000000) (hq : Hid (upE n d = q)) :
    Calls Try.prog 63 #[.int .i64 n, .int .i64 d] w fun e w' => e = .returned (.int .i64 q) ∧ w = w' := by
  have bd := upE_bd n0 d1
  rw [hq.out] at bd
  have w1 : IntKind.i64.wrap (n + d) = n + d := IntWalk.i64_in _ (by omega)
  have w2 : IntKind.i64.wrap (n + d - 1) = n + d - 1 := IntWalk.i64_in _ (by omega)
  have w3 : IntKind.i64.wrap ((n + d - 1).tdiv d) = q := by
    rw [Int.tdiv_eq_ediv_of_nonneg (by omega), show (n + d - 1) / d = q from hq.out]; exact IntWalk.i64_in _ (by omega)
  have d0 : d ≠ 0 := by omega
  go_enter Try.func63, Try.ntmps63
  go_wp2
  go_ret
  exact ⟨rfl, rfl⟩
/-- A right table. -/
structure OxOk (T : List Ox) : Prop where
  l : T.length ≤ 20
  b : ∀ x ∈ T, 0 ≤ x.f ∧ x.f ≤ 4000 ∧ 0 ≤ x.r ∧ x.r ≤ 100000
  m : ∀ k, k + 1 < T.length → (T.getD k default).f < (T.getD (k + 1) default).f
theorem ox_ok {T : List Ox} (h : oxE T = 0) : OxOk T := by
  unfold oxE at h
  by_cases h20 : 20 < T.length
  · rw [if_pos h20] at h; exact absurd h (by decide)
  rw [if_neg h20] at h
  have hk : ∀ k, k < T.length → oxK T k = 0 := fun k hk => fstI_ok h k (by simpa using hk)
  refine ⟨by omega, fun x hx => ?_, fun k hk2 => ?_⟩
  · obtain ⟨k, hkl, rfl⟩ := List.mem_iff_getElem.1 hx
    have := hk k hkl
    unfold oxK at this
    rw [getD_at hkl] at this
    by_cases h1 : (inB T[k].f 0 4000 && inB T[k].r 0 100000) = false
    · rw [if_pos h1] at this; exact absurd this (by decide)
    · have q : inB T[k].f 0 4000 = true ∧ inB T[k].r 0 100000 = true := by simpa using h1
      have a := inB_iff.1 q.1
      have b := inB_iff.1 q.2
      exact ⟨a.1, a.2, b.1, b.2⟩
  · have := hk (k + 1) hk2
    unfold oxK at this
    rw [Nat.add_sub_cancel] at this
    by_cases h1 : (inB (T.getD (k + 1) default).f 0 4000 && inB (T.getD (k + 1) default).r 0 100000) = false
    · rw [if_pos h1] at this; exact absurd this (by decide)
    · rw [if_neg h1] at this
      by_cases h2 : 0 < k + 1 ∧ (T.getD (k + 1) default).f ≤ (T.getD k default).f
      · rw [if_pos h2] at this; exact absurd this (by decide)
      · have : ¬ (T.getD (k + 1) default).f ≤ (T.getD k default).f := fun h => h2 ⟨by omega, h⟩
        omega
theorem OxOk.at' {T : List Ox} (h : OxOk T) {k : Nat} (hk : k < T.length) : 0 ≤ T[k].f ∧ T[k].f ≤ 4000 ∧ 0 ≤ T[k].r ∧ T[k].r ≤ 100000 := h.b _ (List.getElem_mem hk)
set_option maxRecDepth 100000 in
theorem pressures_is (x : Pl) (w : World) (hok : Hid (PlOk x)) :
    Calls Try.prog 62 #[.agg #[.int .i64 x.s, .int .i64 x.d, .int .i64 x.g, .int .i64 x.nu, .int .i64 x.bs, .int .i64 x.bd, .int .i64 x.su, .int .i64 x.o, .int .i64 x.h]] w fun e w' => e = .returned (.tuple #[.int .i64 (x.su + x.bd), .int .i64 (x.su + x.d)]) ∧ Below w.heap.size w w' := by
  have a1 := hok.out.d
  have a2 := hok.out.bd
  have a3 := hok.out.su
  have w1 : IntKind.i64.wrap (x.su + x.bd) = x.su + x.bd := IntWalk.i64_in _ (by omega)
  have w2 : IntKind.i64.wrap (x.su + x.d) = x.su + x.d := IntWalk.i64_in _ (by omega)
  go_enter Try.func62, Try.ntmps62
  go_upto_region 1 with (fail)
  go_big_quiet (fail)
  go_wp2
  go_ret2
  exact ⟨rfl, (by (repeat (first | (with_reducible refine Below.drew ?_) | (with_reducible refine below_drewN ?_ _) | (with_reducible refine Below.alloc ?_ (by first | omega | (simp; done) | (simp; omega) | (simp at *; omega)) _) | (with_reducible refine Below.setCell ?_ (by first | omega | (simp; done) | (simp; omega) | (simp at *; omega)) _) | (with_reducible exact Below.refl _ _) | (with_reducible assumption) | (with_reducible refine Below.trans ?_ (Below.mono (by assumption) (by first | omega | (simp; done) | (simp; omega) | (simp at *; omega)))))))⟩
end Go.Proofs.Ytgidmmmdpmophaa

namespace Go.Proofs.Ytgidmmmdpmophaa
open Go.ChangeShapes Go.WideShapes Go.ChangeAt Go.RowKit
set_option linter.unusedVariables false
set_option linter.unusedSimpArgs false
attribute [local go_sem ↓] Go.wp_at_zero Go.wp_at_succ
theorem b9 {u : World} {B b : Nat} {v0 v1 v2 v3 v4 v5 v6 v7 v8 : Value} (h : BlkF u B b [v0, v1, v2, v3, v4, v5, v6, v7, v8]) : u.cell? ⟨b, 0, none⟩ = some v0 ∧ u.cell? ⟨b, 1, none⟩ = some v1 ∧ u.cell? ⟨b, 2, none⟩ = some v2 ∧ u.cell? ⟨b, 3, none⟩ = some v3 ∧ u.cell? ⟨b, 4, none⟩ = some v4 ∧ u.cell? ⟨b, 5, none⟩ = some v5 ∧ u.cell? ⟨b, 6, none⟩ = some v6 ∧ u.cell? ⟨b, 7, none⟩ = some v7 ∧ u.cell? ⟨b, 8, none⟩ = some v8 := ⟨h.at' 0 _ rfl, h.at' 1 _ rfl, h.at' 2 _ rfl, h.at' 3 _ rfl, h.at' 4 _ rfl, h.at' 5 _ rfl, h.at' 6 _ rfl, h.at' 7 _ rfl, h.at' 8 _ rfl⟩
end Go.Proofs.Ytgidmmmdpmophaa
