import Derived.Test.YtgidmmmdpmophaaRSFRows2
import Derived.ProofKit
import Derived.OpenShut
import Derived.Lib.SmallJoins
import Derived.Deep.Slices
import Derived.Deep.Strs
import Derived.Carry
namespace Go.Proofs.Ytgidmmmdpmophaa
open Go.ChangeShapes Go.WideShapes Go.ChangeAt Go.RowKit Go.Joins Go.Deep
set_option linter.unusedVariables false
set_option linter.unusedSimpArgs false
theorem laidOutA : laidOutB Try.prog = true := by kernel_rfl
section
variable {H : Type} {enc : TypeId × Value → H} {P : Program} {W : World}
/-- A slice of records, read: where it lies, and what holds of each record. -/
theorem openSl {α : Type} [Inhabited α] {S T : TypeId} {n : Nat} {f : α → List Value} {wf : α → Prop} (hS : P.underlying S = some (.slice T)) (hn : P.cellsOf T = n) (hpos : 0 < n) (hlen : ∀ g, (f g).length = n)
    (hop : ∀ {m : Nat} {cs : List Value} {x : DataW H × List MemPlace}, DataW.trod enc P W 0 (fun _ => true) true m T cs = some x → ∃ g, cs = f g ∧ wf g)
    {fuel : Nat} {cs : List Value} {x : DataW H × List MemPlace} (hf : DataW.trod enc P W 0 (fun _ => true) true fuel S cs = some x) :
    ∃ (L : List α) (A : Option Addr) (cap : Nat), cs = [.slice A L.length cap] ∧ SlRows f n W A L ∧ (∀ g ∈ L, wf g) ∧ (A = none → cap = 0) ∧ L.length ≤ cap ∧ cap ≤ maxLen := by
  rcases open_slice hS hf with ⟨hcs, hx⟩ | ⟨a, len, cap, m, nn, D, Pl, hcs, hb, hl, hm, hmm, hx, hi⟩
  · exact ⟨[], none, 0, hcs, Or.inl rfl, by simp, fun _ => rfl, by simp, by simp⟩
  · have hmc : m = cap := by simpa using hmm
    subst hmc
    have hg : ∀ i, i < m → ∃ g : α, W.cells? 0 (a.add (i * n)) n = some (f g) ∧ wf g := by
      intro i him
      obtain ⟨cs', hc, ht'⟩ := hi i him
      rw [hn] at hc
      obtain ⟨g, rfl, w0⟩ := hop ht'
      exact ⟨g, hc, w0⟩
    obtain ⟨F, hF⟩ := choose_lt hg
    have bb : ∀ j, (a.add j).block = a.block := fun j => by unfold Addr.add; split <;> rfl
    have hc1 : ∀ i, i < m → ∀ j, j < n → ∃ u, W.cell? ((a.add (i * n)).add j) = some u ∧ (f (F i))[j]? = some u := fun i him j hj => by
      obtain ⟨_, hl', hat⟩ := World.cells?_some (hF i him).1
      have h1 := hat j hj
      have h2 : j < (f (F i)).length := by rw [hlen]; exact hj
      rw [List.getElem?_eq_getElem h2] at h1 ⊢
      exact ⟨_, h1, rfl⟩
    have hlt : ∀ i, i < m → a.block < W.heap.size := by
      intro i him
      obtain ⟨u, hu, _⟩ := hc1 i him 0 hpos
      have := World.block_lt_of_cell? _ _ hu
      have e : ((a.add (i * n)).add 0).block = a.block := by
        rw [show ((a.add (i * n)).add 0).block = (a.add (i * n)).block by unfold Addr.add; simp, bb]
      rw [e] at this; exact this
    have hP : ((List.range len).map F).length = len := by simp
    refine ⟨(List.range len).map F, some a, m, by rw [hP]; exact hcs, ?_, ?_, (fun h => by cases h), by rw [hP]; exact hl, hm⟩
    · by_cases h0 : len = 0
      · exact Or.inl (by rw [h0]; rfl)
      · right
        obtain ⟨bk, off, spot⟩ := a
        have hs : spot = none := by
          obtain ⟨u, hu, _⟩ := hc1 0 (by omega) 0 hpos
          have := World.cell?_spot hu
          simpa [Addr.add] using this
        subst hs
        refine ⟨bk, off, rfl, hlt 0 (by omega), ?_⟩
        intro k hk i hin
        rw [hP] at hk
        obtain ⟨u, hu, hu2⟩ := hc1 k (by omega) i hin
        rw [addNR, addNR] at hu
        simp only [List.getElem_map, List.getElem_range]
        rw [hu, hu2]
    · intro g hgm
      obtain ⟨i, hi1, rfl⟩ := List.mem_map.1 hgm
      exact (hF i (by have := List.mem_range.1 hi1; omega)).2
end
end Go.Proofs.Ytgidmmmdpmophaa
