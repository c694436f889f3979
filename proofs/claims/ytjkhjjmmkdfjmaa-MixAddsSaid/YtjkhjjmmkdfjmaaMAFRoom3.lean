import Derived.Test.YtjkhjjmmkdfjmaaMAFRoom1
import Derived.Test.YtjkhjjmmkdfjmaaMALastReg
import Derived.Outline
namespace Go.Proofs.Ytjkhjjmmkdfjmaa
open Go.ChangeShapes Go.WideShapes Go.ChangeAt Go.RowKit
set_option linter.unusedVariables false
set_option linter.unusedSimpArgs false
attribute [local go_sem ↓] Go.wp_at_zero Go.wp_at_succ
/-- All blocks below N are as they were, but two. -/
structure BelowD (x y N : Nat) (w w' : World) : Prop where
  os : w'.os = w.os
  tape : w'.tape = w.tape
  output : w'.output = w.output
  size : w.heap.size ≤ w'.heap.size
  block : ∀ k, k < N → k ≠ x → k ≠ y → w'.heap[k]? = w.heap[k]?
theorem BelowD.trans {x y N : Nat} {a b c : World} (h : BelowD x y N a b) (k : BelowD x y N b c) : BelowD x y N a c :=
  ⟨k.os.trans h.os, k.tape.trans h.tape, k.output.trans h.output, Nat.le_trans h.size k.size, fun i hi h1 h2 => (k.block i hi h1 h2).trans (h.block i hi h1 h2)⟩
theorem BelowD.of {x y N n : Nat} {a b : World} (h : Below n a b) (hn : N ≤ n) : BelowD x y N a b :=
  ⟨h.os, h.tape, h.output, h.size, fun i hi _ _ => h.block i (Nat.lt_of_lt_of_le hi hn)⟩
theorem BelowD.set {x y N : Nat} {a b : World} (h : BelowD x y N a b) (k i : Nat) (v : Value) (hk : k = x ∨ k = y ∨ N ≤ k) : BelowD x y N a (b.setCell ⟨k, i, none⟩ v) := by
  have e : ∀ j, j ≠ k → (b.setCell ⟨k, i, none⟩ v).heap[j]? = b.heap[j]? := fun j hj => Below.heap_setCell _ _ _ _ (by exact hj)
  exact ⟨h.os, h.tape, h.output, by rw [World.size_setCell]; exact h.size, fun j hj h1 h2 => (e j (by rcases hk with rfl | rfl | hk; exact h1; exact h2; omega)).trans (h.block j hj h1 h2)⟩
theorem BelowD.cell {x y N : Nat} {w w' : World} (h : BelowD x y N w w') {b i : Nat} (hb : b < N) (h1 : b ≠ x) (h2 : b ≠ y) : w'.cell? ⟨b, i, none⟩ = w.cell? ⟨b, i, none⟩ :=
  World.cell?_of_block (a := ⟨b, i, none⟩) (h.block b hb h1 h2)
theorem BelowD.frozen {x y N : Nat} {w w' : World} (h : BelowD x y N w w') {b i : Nat} (hb : b < N) (h1 : b ≠ x) (h2 : b ≠ y) : w'.frozen? ⟨b, i, none⟩ = w.frozen? ⟨b, i, none⟩ :=
  World.frozen?_of_block (a := ⟨b, i, none⟩) (h.block b hb h1 h2)
end Go.Proofs.Ytjkhjjmmkdfjmaa
