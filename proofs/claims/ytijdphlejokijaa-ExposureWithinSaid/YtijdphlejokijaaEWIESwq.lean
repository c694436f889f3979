import Derived.Test.YtijdphlejokijaaEWIEClkOf
import Derived.Outline
namespace Go.Proofs.Ytijdphlejokijaa
open Go.ChangeShapes Go.WideShapes Go.ChangeAt Go.RowKit
set_option linter.unusedVariables false
set_option linter.unusedSimpArgs false
def p2V (x : Int × Int) : List Value := [.int .i64 x.1, .int .i64 x.2]
/-- What lay below N lies as it lay, but for two blocks. -/
structure KeptU (N t u : Nat) (W W' : World) : Prop where
  size : W.heap.size ≤ W'.heap.size
  same : ∀ b, b < N → b ≠ t → b ≠ u → W'.heap[b]? = W.heap[b]?
theorem KeptU.refl (N t u : Nat) (W : World) : KeptU N t u W W := ⟨Nat.le_refl _, fun _ _ _ _ => rfl⟩
theorem KeptU.trans {N t u : Nat} {A B C : World} (h : KeptU N t u A B) (k : KeptU N t u B C) : KeptU N t u A C := ⟨Nat.le_trans h.size k.size, fun b hb hn hm => (k.same b hb hn hm).trans (h.same b hb hn hm)⟩
theorem KeptU.of_below {N t u : Nat} {A B : World} (h : Below N A B) : KeptU N t u A B := ⟨h.size, fun b hb _ _ => h.block b hb⟩
theorem KeptU.set {N t u : Nat} (A : World) (i : Nat) (v : Value) : KeptU N t u A (A.setCell ⟨u, i, none⟩ v) := ⟨(KeepsOthers.setCell A ⟨u, i, none⟩ v).size, fun b _ _ hm => Below.heap_setCell _ _ _ b (fun e => hm (by rw [e]))⟩
theorem KeptU.cell {N t u : Nat} {A B : World} (h : KeptU N t u A B) {b : Nat} (hb : b < N) (hn : b ≠ t) (hm : b ≠ u) (i : Nat) : B.cell? ⟨b, i, none⟩ = A.cell? ⟨b, i, none⟩ := World.cell?_of_block (a := ⟨b, i, none⟩) (h.same b hb hn hm)
theorem KeptU.kpB {N t u : Nat} {A B : World} (h : KeptU N t u A B) {bs : List Nat} (hb : ∀ b ∈ bs, b < N ∧ b ≠ t ∧ b ≠ u) : KpB bs A B := ⟨h.size, fun b hm => h.same b (hb b hm).1 (hb b hm).2.1 (hb b hm).2.2⟩
theorem BoxN.kept {W W' : World} {b N t u : Nat} {ty : TypeId} {vs : List Value} (h : BoxN W b ty vs) (k : KeptU N t u W W') (hb : b < N) (h1 : b ≠ t) (h2 : b ≠ u) : BoxN W' b ty vs := (k.same b hb h1 h2).trans h
theorem BoxN.belowN {W W' : World} {b N : Nat} {ty : TypeId} {vs : List Value} (h : BoxN W b ty vs) (k : Below N W W') (hb : b < N) : BoxN W' b ty vs := (k.block b hb).trans h
end Go.Proofs.Ytijdphlejokijaa
