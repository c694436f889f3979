import Derived.Test.YtojaompfffpofaaGreatZCArg
namespace Go.Proofs.YtojaompfffpofaaGreat
open Go.ChangeShapes Go.WideShapes Go.ChangeAt Go.RowKit Go.Joins Go.Deep
set_option linter.unusedVariables false
set_option linter.unusedSimpArgs false
/-- Slices in a slice: each lies where its cell says, and holds a list of which Q holds. -/
def SlSl {α : Type} (Q : Option Addr → List α → Nat → Prop) (w : World) (B : Option Addr) (M : List (List α)) : Prop := M = [] ∨ ∃ b off, B = some ⟨b, off, none⟩ ∧ b < w.heap.size ∧ ∀ k, k < M.length → ∃ A cap, w.cell? ⟨b, off + k, none⟩ = some (.slice A (M.getD k []).length cap) ∧ Q A (M.getD k []) cap
section
variable {H : Type} {enc : TypeId × Value → H} {P : Program} {W : World}
theorem openSl2 {α : Type} {S T : TypeId} {Q : Option Addr → List α → Nat → Prop} (hS : P.underlying S = some (.slice T)) (hn : P.cellsOf T = 1)
    (hop : ∀ {m : Nat} {cs : List Value} {x : DataW H × List MemPlace}, DataW.trod enc P W 0 (fun _ => true) true m T cs = some x → ∃ (L : List α) (A : Option Addr) (cap : Nat), cs = [.slice A L.length cap] ∧ Q A L cap)
    {fuel : Nat} {cs : List Value} {x : DataW H × List MemPlace} (hf : DataW.trod enc P W 0 (fun _ => true) true fuel S cs = some x) :
    ∃ (M : List (List α)) (A : Option Addr) (cap : Nat), cs = [.slice A M.length cap] ∧ SlSl Q W A M ∧ (A = none → cap = 0) ∧ M.length ≤ cap ∧ cap ≤ maxLen := by
  rcases open_slice hS hf with ⟨hcs, hx⟩ | ⟨a, len, cap, m, nn, D, Pl, hcs, hb, hl, hm, hmm, hx, hi⟩
  · exact ⟨[], none, 0, hcs, Or.inl rfl, fun _ => rfl, by simp, by simp⟩
  · have hmc : m = cap := by simpa using hmm
    subst hmc
    have hg : ∀ i, i < m → ∃ g : List α × Option Addr × Nat, W.cells? 0 (a.add (i * 1)) 1 = some [.slice g.2.1 g.1.length g.2.2] ∧ Q g.2.1 g.1 g.2.2 := by
      intro i him
      obtain ⟨cs', hc, ht'⟩ := hi i him
      rw [hn] at hc
      obtain ⟨L, A, c, rfl, w0⟩ := hop ht'
      exact ⟨(L, A, c), hc, w0⟩
    obtain ⟨F, hF⟩ := choose_lt hg
    have bb : ∀ j, (a.add j).block = a.block := fun j => by unfold Addr.add; split <;> rfl
    have hc1 : ∀ i, i < m → W.cell? ((a.add (i * 1)).add 0) = some (.slice (F i).2.1 (F i).1.length (F i).2.2) := fun i him => by
      obtain ⟨_, hl', hat⟩ := World.cells?_some (hF i him).1
      exact hat 0 (by omega)
    have hlt : ∀ i, i < m → a.block < W.heap.size := by
      intro i him
      have := World.block_lt_of_cell? _ _ (hc1 i him)
      have e : ((a.add (i * 1)).add 0).block = a.block := by
        rw [show ((a.add (i * 1)).add 0).block = (a.add (i * 1)).block by unfold Addr.add; simp, bb]
      rw [e] at this; exact this
    have hP : ((List.range len).map fun i => (F i).1).length = len := by simp
    refine ⟨(List.range len).map fun i => (F i).1, some a, m, by rw [hP]; exact hcs, ?_, (fun h => by cases h), by rw [hP]; exact hl, hm⟩
    by_cases h0 : len = 0
    · exact Or.inl (by rw [h0]; rfl)
    · right
      obtain ⟨bk, off, spot⟩ := a
      have hs : spot = none := by
        have := World.cell?_spot (hc1 0 (by omega))
        simpa [Addr.add] using this
      subst hs
      refine ⟨bk, off, rfl, hlt 0 (by omega), ?_⟩
      intro k hk
      rw [hP] at hk
      have hu := hc1 k (by omega)
      rw [addNR, addNR] at hu
      have hg2 : ((List.range len).map fun i => (F i).1).getD k [] = (F k).1 := by
        rw [List.getD_eq_getElem?_getD, List.getElem?_map, List.getElem?_range hk]; rfl
      refine ⟨(F k).2.1, (F k).2.2, ?_, ?_⟩
      · rw [hg2]; simpa using hu
      · rw [hg2]; exact (hF k (by omega)).2
end
end Go.Proofs.YtojaompfffpofaaGreat
