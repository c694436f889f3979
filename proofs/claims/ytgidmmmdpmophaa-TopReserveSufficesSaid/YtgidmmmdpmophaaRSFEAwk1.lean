import Derived.Test.YtgidmmmdpmophaaRSFENeed
import Derived.Test.YtgidmmmdpmophaaRSFLeaf
import Derived.LoopN
import Derived.Outline
import Derived.Deep.DrawnRows
namespace Go.Proofs.Ytgidmmmdpmophaa
open Go.ChangeShapes Go.WideShapes Go.ChangeAt Go.RowKit
set_option linter.unusedVariables false
set_option linter.unusedSimpArgs false
attribute [local go_sem ↓] Go.wp_at_zero Go.wp_at_succ
theorem _root_.Go.World.ownsRow.below' {w w' : World} {base : Nat} {e : TypeId} {s n : Nat} {v : Value} {xs : List Value} (h : w.ownsRow base e s v n xs) (hb : Below w.heap.size w w') : w'.ownsRow base e s v n xs := own_belowG h hb (Nat.le_refl _)
theorem calls_world {P : Program} {f : FuncId} {args : Array Value} {w : World} {R : Ending → World → Prop} (S : World → Prop) (h : S w) (k : ∀ X, S X → Calls P f args X R) : Calls P f args w R := k w h
end Go.Proofs.Ytgidmmmdpmophaa

namespace Go.Proofs.Ytgidmmmdpmophaa
open Go.ChangeShapes Go.WideShapes Go.ChangeAt Go.RowKit
set_option linter.unusedVariables false
set_option linter.unusedSimpArgs false
attribute [local go_sem ↓] Go.wp_at_zero Go.wp_at_succ
def dG : List Ga := [⟨210, 0⟩, ⟨500, 0⟩]
def dD : List Le := [⟨60, 1800, 0⟩, ⟨600, 1800, 0⟩, ⟨120, 600, 0⟩, ⟨300, 600, 1⟩]
theorem dPln : plnP ⟨#[112]⟩ 1013 dG dD = ((plnP ⟨#[112]⟩ 1013 dG dD).1, 0) := by kernel_rfl
theorem dCon : conA 20000 (legK 1013 dG dD) 2 (List.range 4) = [689380, 161300] := by kernel_rfl
set_option maxRecDepth 100000 in
theorem Dive_is (w : World) : Calls Try.prog 20 #[] w fun e w' => ∃ A B, e = .returned (.agg #[.string ⟨#[112]⟩, .int .i64 1013, .slice A 2 2, .slice B 4 4]) ∧ SlRows gaV 2 w' A dG ∧ SlRows leV 3 w' B dD ∧ Below w.heap.size w w' := by
  go_enter Try.func20, Try.ntmps20
  go_wp2
  refine bodyPost_ret (v := .agg #[.string ⟨#[112]⟩, .int .i64 1013, .slice (some ⟨w.heap.size + 1, 0, none⟩) 2 2, .slice (some ⟨w.heap.size + 1 + 1, 0, none⟩) 4 4]) (by simp [results, Try.results20, go_sem]) rfl ⟨_, _, rfl, Or.inr ⟨_, 0, rfl, by simp, ?_⟩, Or.inr ⟨_, 0, rfl, by simp, ?_⟩, (by (repeat (first | (with_reducible refine Below.drew ?_) | (with_reducible refine below_drewN ?_ _) | (with_reducible refine Below.alloc ?_ (by first | omega | (simp; done) | (simp; omega) | (simp at *; omega)) _) | (with_reducible refine Below.setCell ?_ (by first | omega | (simp; done) | (simp; omega) | (simp at *; omega)) _) | (with_reducible exact Below.refl _ _) | (with_reducible assumption) | (with_reducible refine Below.trans ?_ (Below.mono (by assumption) (by first | omega | (simp; done) | (simp; omega) | (simp at *; omega)))))))⟩
  · intro k hk i hi
    have h1 : k = 0 ∨ k = 1 := by simp [dG] at hk; omega
    have h2 : i = 0 ∨ i = 1 := by omega
    rcases h1 with rfl | rfl <;> rcases h2 with rfl | rfl <;> simp [go_sem, dG, gaV, World.cell?_alloc_past]
  · intro k hk i hi
    have h1 : k = 0 ∨ k = 1 ∨ k = 2 ∨ k = 3 := by simp [dD] at hk; omega
    have h2 : i = 0 ∨ i = 1 ∨ i = 2 := by omega
    rcases h1 with rfl | rfl | rfl | rfl <;> rcases h2 with rfl | rfl | rfl <;> simp [go_sem, dD, leV, World.cell?_alloc_past]
end Go.Proofs.Ytgidmmmdpmophaa
