/- An argument that is a slice of ints: opened to a list, and shut again behind a call that only makes memory. -/
import Derived.Test.YtfaodlcfjhnhbaaMDive
import Derived.ProofKit
import Derived.OpenShut
import Derived.Lib.SmallJoins
import Derived.Deep.Slices
import Derived.Deep.Strs
namespace Go.Proofs.Ytfaodlcfjhnhbaa
open Go.ChangeShapes Go.WideShapes Go.ChangeAt Go.RowKit Go.Joins Go.Deep
set_option linter.unusedVariables false
set_option linter.unusedSimpArgs false
/-- A slice that holds a list of ints: nil, or cells of an old block. -/
def InAt (w : World) (b off : Nat) (I : List Int) : Prop := ∀ k, (hk : k < I.length) → w.cell? ⟨b, off + k, none⟩ = some (.int .i64 I[k])
def SlIn (w : World) (A : Option Addr) (I : List Int) : Prop := I = [] ∨ ∃ b off, A = some ⟨b, off, none⟩ ∧ b < w.heap.size ∧ InAt w b off I
theorem SlIn.below {w w' : World} {A : Option Addr} {I : List Int} (h : SlIn w A I) (hb : Below w.heap.size w w') : SlIn w' A I := by
  rcases h with h | ⟨b, off, rfl, hlt, h⟩
  · exact Or.inl h
  · exact Or.inr ⟨b, off, rfl, Nat.lt_of_lt_of_le hlt hb.size, fun k hk => (hb.cell (p := ⟨b, off + k, none⟩) hlt).trans (h k hk)⟩
set_option maxRecDepth 100000 in
theorem openInts {H : Type} {enc : TypeId × Value → H} {W : World} {r : Reach} {b0 : Nat} {v : Value} {d : DataW H} {p : List MemPlace} (hv : Value.okWide Try.prog W r b0 43 v) (h : DataW.Trod enc Try.prog W 0 (fun _ => true) true 43 v d p) :
    ∃ (I : List Int) (A : Option Addr) (cap : Nat), v = .slice A I.length cap ∧ SlIn W A I ∧ (A = none → cap = 0) ∧ I.length ≤ cap ∧ cap ≤ maxLen ∧
      (∀ W', Below W.heap.size W W' → DataW.Trod enc Try.prog W' 0 (fun b => decide (b < W.heap.size)) true 43 v d p) := by
  obtain ⟨a0, len0, cap0, rfl⟩ := okWide_slice Try.underlying43 hv
  obtain ⟨fuel, hf⟩ := h
  rcases open_slice Try.underlying43 hf with ⟨hcs, hx⟩ | ⟨a, len, cap, m, n, D, Pl, hcs, hb, hl, hm, hmm, hx, hi⟩
  · simp [Value.cells] at hcs
    obtain ⟨rfl, rfl, rfl⟩ := hcs
    simp only [Prod.mk.injEq] at hx
    obtain ⟨rfl, rfl⟩ := hx
    refine ⟨[], none, 0, rfl, Or.inl rfl, fun _ => rfl, by simp, by simp, fun W' hB => ⟨1, ?_⟩⟩
    simp [Value.cells, DataW.trod, Try.underlying43]
  · simp [Value.cells] at hcs
    obtain ⟨rfl, rfl, rfl⟩ := hcs
    have hmc : m = cap0 := by simpa using hmm
    subst hmc
    have hg : ∀ i, i < m → ∃ g : Int, W.cell? (a.add i) = some (.int .i64 g) ∧ D i = .lit (.int .i64 g) ∧ Pl i = [] ∧ (Lit.int .i64 g).wf = true := by
      intro i him
      obtain ⟨cs', hc, ht'⟩ := hi i him
      rw [cIntL, Nat.mul_one] at hc
      obtain ⟨x, e, hx', w0⟩ := DataW.trod_int Try.underlying3 ht'
      subst e
      obtain ⟨_, _, hat⟩ := World.cells?_some hc
      simp only [Prod.mk.injEq] at hx'
      have g0 := hat 0 (by omega)
      refine ⟨x, ?_, hx'.1, hx'.2, w0⟩
      simpa [Addr.add] using g0
    obtain ⟨f, hF⟩ := choose_lt hg
    have hlt : ∀ i, i < m → a.block < W.heap.size := by
      intro i him
      have := World.block_lt_of_cell? _ _ (hF i him).1
      unfold Addr.add at this
      split at this <;> simpa using this
    have hP : ((List.range len0).map f).length = len0 := by simp
    refine ⟨(List.range len0).map f, some a, m, by rw [hP], ?_, (fun h => by cases h), by rw [hP]; exact hl, hm, ?_⟩
    · by_cases h0 : len0 = 0
      · exact Or.inl (by rw [h0]; rfl)
      · right
        obtain ⟨bk, off, spot⟩ := a
        have hs : spot = none := by
          have := World.cell?_spot (hF 0 (by omega)).1
          simpa [Addr.add] using this
        subst hs
        refine ⟨bk, off, rfl, hlt 0 (by omega), ?_⟩
        intro k hk
        rw [hP] at hk
        obtain ⟨q0, _⟩ := hF k (by omega)
        have e0 : (⟨bk, off, none⟩ : Addr).add k = ⟨bk, off + k, none⟩ := by
          unfold Addr.add; split
          · rename_i hz; rw [hz]; rfl
          · rfl
        rw [e0] at q0
        simp only [List.getElem_map, List.getElem_range]
        exact q0
    · intro W' hB
      simp only [Prod.mk.injEq] at hx
      obtain ⟨rfl, rfl⟩ := hx
      by_cases hsp : a.block < W.heap.size
      · have hk : ∀ i, i < m → ∃ cs n, W'.cells? 0 (a.add (i * Try.prog.cellsOf 3)) (Try.prog.cellsOf 3) = some cs ∧ DataW.trod enc Try.prog W' 0 (fun b => decide (b < W.heap.size)) true n 3 cs = some (D i, Pl i) := by
          intro i him
          obtain ⟨q0, hD, hPl, w0⟩ := hF i him
          rw [cIntL, Nat.mul_one, hD, hPl]
          have bb : ∀ j, (a.add j).block = a.block := fun j => by unfold Addr.add; split <;> rfl
          refine ⟨[.int .i64 (f i)], 1, ?_, trod_int_mk 0 Try.underlying3 w0⟩
          have e0 : (a.add i).add 0 = a.add i := by simp [Addr.add]
          unfold World.cells?
          rw [if_pos (Nat.zero_le _)]
          simp [List.range_succ, e0, (hB.cell (by rw [bb]; exact hsp)).trans q0]
        obtain ⟨q, hq⟩ := shut_slice_whole_cells (enc := enc) (P := Try.prog) (w := W') (base := 0) (spare := fun b => decide (b < W.heap.size)) (held := true) Try.underlying43 (Nat.zero_le _) hl hm (by simpa using hsp) D Pl hk
        exact ⟨q, by simpa [Value.cells] using hq⟩
      · have hm0 : m = 0 := by
          by_cases c : m = 0
          · exact c
          · exact absurd (hlt 0 (by omega)) hsp
        subst hm0
        have hl0 : len0 = 0 := by omega
        subst hl0
        obtain ⟨q, hq⟩ := shut_slice_cells (enc := enc) (P := Try.prog) (w := W') (base := 0) (spare := fun b => decide (b < W.heap.size)) (held := true) (a := a) (len := 0) (cap := 0) Try.underlying43 (Nat.zero_le _) (Nat.le_refl _) hm (by simpa using hsp) D Pl (fun i hi => by omega)
        exact ⟨q, by simpa [Value.cells] using hq⟩
end Go.Proofs.Ytfaodlcfjhnhbaa
