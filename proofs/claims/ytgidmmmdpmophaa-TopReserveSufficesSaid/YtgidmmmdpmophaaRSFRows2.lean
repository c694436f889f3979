import Derived.Test.YtgidmmmdpmophaaRSFLeaf
import Derived.ProofKit
import Derived.OpenShut
import Derived.Lib.SmallJoins
import Derived.Deep.Slices
import Derived.Deep.Strs
import Derived.Maps.AppendAt
import Derived.OwnWalk
namespace Go.Proofs.Ytgidmmmdpmophaa
open Go.ChangeShapes Go.WideShapes Go.ChangeAt Go.RowKit Go.Joins Go.Deep
set_option linter.unusedVariables false
set_option linter.unusedSimpArgs false
section
variable {α : Type}
/-- A list of records of n cells each lies in a block, from a cell on. -/
def RowsAt (f : α → List Value) (n : Nat) (w : World) (b off : Nat) (L : List α) : Prop :=
  ∀ k, (hk : k < L.length) → ∀ i, i < n → w.cell? ⟨b, off + k * n + i, none⟩ = (f L[k])[i]?
/-- A slice that holds a list of records. -/
def SlRows (f : α → List Value) (n : Nat) (w : World) (A : Option Addr) (L : List α) : Prop := L = [] ∨ ∃ b off, A = some ⟨b, off, none⟩ ∧ b < w.heap.size ∧ RowsAt f n w b off L
theorem RowsAt.below {f : α → List Value} {n : Nat} {w w' : World} {b off : Nat} {L : List α} (h : RowsAt f n w b off L) {N : Nat} (hb : Below N w w') (hlt : b < N) : RowsAt f n w' b off L := by
  intro k hk i hi
  rw [← h k hk i hi]
  exact hb.cell (p := ⟨b, _, none⟩) hlt
theorem SlRows.below {f : α → List Value} {n : Nat} {w w' : World} {A : Option Addr} {L : List α} (h : SlRows f n w A L) (hb : Below w.heap.size w w') : SlRows f n w' A L := by
  rcases h with h | ⟨b, off, rfl, hlt, h⟩
  · exact Or.inl h
  · exact Or.inr ⟨b, off, rfl, Nat.lt_of_lt_of_le hlt hb.size, h.below hb hlt⟩
theorem SlRows.any {f : α → List Value} {n : Nat} {w w' : World} {A : Option Addr} {L : List α} {N : Nat} (h : SlRows f n w A L) (hb : Below N w w') (hn : w.heap.size ≤ N) : SlRows f n w' A L := h.below (hb.mono hn)
def rowsV (f : α → List Value) (L : List α) : List Value := L.flatMap f
theorem rowsV_len {f : α → List Value} {n : Nat} (hf : ∀ g, (f g).length = n) (L : List α) : (rowsV f L).length = L.length * n := by
  induction L with
  | nil => simp [rowsV]
  | cons g r ih =>
    show (f g ++ rowsV f r).length = _
    rw [List.length_append, ih, hf]; simp [Nat.add_mul]; omega
theorem rowsV_at {f : α → List Value} {n : Nat} (hf : ∀ g, (f g).length = n) {L : List α} {k : Nat} (hk : k < L.length) {i : Nat} (hi : i < n) : (rowsV f L)[k * n + i]? = (f L[k])[i]? := by
  induction L generalizing k with
  | nil => simp at hk
  | cons g r ih =>
    have e : rowsV f (g :: r) = f g ++ rowsV f r := rfl
    rw [e]
    cases k with
    | zero => rw [List.getElem?_append_left (by rw [hf]; omega)]; simp
    | succ k =>
      rw [List.getElem?_append_right (by rw [hf, Nat.add_mul]; omega), hf, show (k + 1) * n + i - n = k * n + i by rw [Nat.add_mul]; omega, ih (by simpa using hk)]
      simp
theorem addNR (c off j : Nat) : (⟨c, off, none⟩ : Addr).add j = ⟨c, off + j, none⟩ := by
  unfold Addr.add; split
  · rename_i hz; rw [hz]; rfl
  · rfl
theorem rowsV_cells {f : α → List Value} {n : Nat} (hf : ∀ g, (f g).length = n) (hn : 0 < n) {w : World} {c off : Nat} {L : List α} (h : RowsAt f n w c off L) : ∀ j u, (rowsV f L)[j]? = some u → w.cell? ((⟨c, off, none⟩ : Addr).add j) = some u := by
  intro j u hj
  have hl : j < (rowsV f L).length := (List.getElem?_eq_some_iff.1 hj).1
  rw [rowsV_len hf] at hl
  have hk : j / n < L.length := Nat.div_lt_of_lt_mul (by rw [Nat.mul_comm]; exact hl)
  have hm : j % n < n := Nat.mod_lt _ hn
  have e : j / n * n + j % n = j := by rw [Nat.mul_comm]; exact Nat.div_add_mod j n
  rw [addNR]
  have h1 := h (j / n) hk (j % n) hm
  rw [Nat.add_assoc, e] at h1
  have h2 := rowsV_at hf hk hm
  rw [e] at h2
  rw [h1, ← h2, hj]
theorem rows_one {f : α → List Value} (h1 : ∀ g, ∀ u ∈ f g, u.oneCell' = true) (L : List α) : ∀ u ∈ rowsV f L, u.oneCell' = true := by
  intro u hu
  obtain ⟨g, _, hg⟩ := List.mem_flatMap.1 hu
  exact h1 g u hg
theorem SlRows_own {f : α → List Value} {n : Nat} (hf : ∀ g, (f g).length = n) {w : World} {base : Nat} {e : TypeId} {v : Value} {L : List α} (h : w.ownsRow base e n v L.length (rowsV f L)) : ∃ A cap, v = .slice A L.length cap ∧ SlRows f n w A L ∧ (∀ ad, A = some ad → base ≤ ad.block) ∧ (A = none → cap = 0) ∧ L.length ≤ cap ∧ cap ≤ maxLen := by
  rcases h.2 with ⟨rfl, h0⟩ | ⟨g, cap, cur, rfl, hb, hg, hle, hcap, hs, ht⟩
  · refine ⟨none, 0, by rw [h0], Or.inl (List.eq_nil_of_length_eq_zero h0), ?_, fun _ => rfl, by omega, Nat.zero_le _⟩
    intro ad hh
    exact absurd hh (by simp)
  · refine ⟨some ⟨g, 0, none⟩, cap, rfl, Or.inr ⟨g, 0, rfl, (Array.getElem?_eq_some_iff.1 hg).1, ?_⟩, (fun _ h => by cases h; exact hb), (fun h => by cases h), hle, hcap⟩
    intro k hk i hi
    have c := World.ownsRow.cells h (g := g) rfl
    have hlt : i < (f L[k]).length := by rw [hf]; exact hi
    have q := rowsV_at hf hk hi
    rw [List.getElem?_eq_getElem hlt] at q
    have r := c _ _ q
    rw [addNR] at r
    rw [show 0 + k * n + i = 0 + (k * n + i) by omega, r, List.getElem?_eq_getElem hlt]
end
end Go.Proofs.Ytgidmmmdpmophaa
