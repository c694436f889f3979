import Derived.Test.YtgidmmmdpmophaaRSFEClkOf
import Derived.Test.YtgidmmmdpmophaaRSFERule
import Derived.OrdersHeld
import Derived.Deep.RegionHeld
import Derived.Deep.CutRange
import Derived.Deep.CutBlock
import Derived.Outline
import Derived.Test.YtgidmmmdpmophaaRSFELgp
import Derived.Test.YtgidmmmdpmophaaRSFECons
namespace Go.Proofs.Ytgidmmmdpmophaa
open Go.ChangeShapes Go.WideShapes Go.ChangeAt Go.RowKit
set_option linter.unusedVariables false
set_option linter.unusedSimpArgs false
attribute [local go_sem ↓] Go.wp_at_zero Go.wp_at_succ
/-- How many numbers below N are not yet right. -/
def dpt (p : Nat → Bool) : Nat → Nat
  | 0 => 0
  | n + 1 => dpt p n + if p n = true then 0 else 1
theorem dpt_is {p : Nat → Bool} (hm : ∀ i j, i ≤ j → p i = true → p j = true) : ∀ N, dpt p N ≤ N ∧ (∀ i, i < dpt p N → p i = false) ∧ (∀ i, dpt p N ≤ i → i < N → p i = true)
  | 0 => ⟨Nat.le_refl _, fun i h => absurd h (Nat.not_lt_zero _), fun i _ h => absurd h (Nat.not_lt_zero _)⟩
  | n + 1 => by
    obtain ⟨h1, h2, h3⟩ := dpt_is hm n
    unfold dpt
    by_cases e : p n = true
    · rw [if_pos e]
      refine ⟨by omega, fun i hi => h2 i hi, fun i hi hn => ?_⟩
      by_cases hin : i < n
      · exact h3 i hi hin
      · obtain rfl : i = n := by omega
        exact e
    · rw [if_neg e]
      have hf : ∀ i, i ≤ n → p i = false := fun i hi => by
        cases hp : p i with
        | false => rfl
        | true => exact absurd (hm i n hi hp) e
      have hn : dpt p n = n := by
        by_cases hlt : dpt p n < n
        · have := h3 _ (Nat.le_refl _) hlt; rw [hf _ (by omega)] at this; cases this
        · omega
      exact ⟨by omega, fun i hi => hf i (by omega), fun i hi hi2 => by omega⟩
theorem b1' {u : World} {B b : Nat} {v : Value} (h : BlkF u B b [v]) : u.cell? ⟨b, 0, none⟩ = some v := b1 h
theorem b2' {u : World} {B b : Nat} {v0 v1 : Value} (h : BlkF u B b [v0, v1]) : u.cell? ⟨b, 0, none⟩ = some v0 ∧ u.cell? ⟨b, 1, none⟩ = some v1 := b2 h
end Go.Proofs.Ytgidmmmdpmophaa

namespace Go.Proofs.Ytgidmmmdpmophaa
open Go.Shelf Go.ChangeShapes Go.WideShapes Go.ChangeAt Go.RowKit
set_option linter.unusedVariables false
set_option linter.unusedSimpArgs false
attribute [local go_sem ↓] Go.wp_at_zero Go.wp_at_succ
attribute [local go_sem] Oper.semAt_some
/-- Where a leg ends. -/
def endC (s : Int) (G : List Ga) (D : List Le) (k : Nat) : Int := (legC s G D k).bs + (legC s G D k).s
theorem BlkF.base0' {u : World} {B b : Nat} {vs : List Value} (h : BlkF u B b vs) : BlkF u 0 b vs := ⟨Nat.zero_le _, h.lt, h.at', h.fz⟩
theorem BlkF.low {u u' : World} {B b N : Nat} {vs : List Value} (h : BlkF u B b vs) (hb : Below N u u') (hN : b < N) : BlkF u' B b vs :=
  ⟨h.ge, Nat.lt_of_lt_of_le h.lt hb.size, fun i v hv => (hb.cell (p := ⟨b, i, none⟩) hN).trans (h.at' i v hv), fun j => (hb.frozen (p := ⟨b, j, none⟩) hN).trans (h.fz j)⟩
theorem BlkF.set1 {u : World} {B b i : Nat} {vs : List Value} (h : BlkF u B b vs) (hi : i < vs.length) (v : Value) : BlkF (u.setCell ⟨b, i, none⟩ v) B b (vs.set i v) := by
  refine ⟨h.ge, by simpa using h.lt, fun j x hj => ?_, fun j => (World.frozen?_setCell _ _ _ _).trans (h.fz j)⟩
  rw [List.getElem?_set] at hj
  by_cases e : i = j
  · subst e
    rw [if_pos rfl, if_pos hi] at hj
    cases hj
    exact cell_sameB (h.at' i _ (List.getElem?_eq_getElem hi))
  · rw [if_neg e] at hj
    rw [cell_offB e]
    exact h.at' j x hj
theorem SlK.cons {α : Type} {f : α → List Value} {n : Nat} {w : World} {bs : List Nat} {A : Option Addr} {L : List α} {c : Nat} (h : SlK f n w bs A L) : SlK f n w (c :: bs) A L := h.imp id fun ⟨b, off, e, hm, hl, hR⟩ => ⟨b, off, e, List.mem_cons_of_mem _ hm, hl, hR⟩
end Go.Proofs.Ytgidmmmdpmophaa
