import Derived.Test.YtijdphlejokijaaGreatERSLeaf
import Derived.ProofKit
import Derived.OpenShut
import Derived.Lib.SmallJoins
import Derived.Deep.Slices
import Derived.Deep.Strs
import Derived.Maps.AppendAt
import Derived.OwnWalk
import Derived.Outline
namespace Go.Proofs.YtijdphlejokijaaGreat
open Go.ChangeShapes Go.WideShapes Go.ChangeAt Go.RowKit Go.Joins Go.Deep
set_option linter.unusedVariables false
set_option linter.unusedSimpArgs false
section
variable {α : Type}
/-- A list of records of n cells each lies in a block, from a cell on. -/
def RowsAt (f : α → List Value) (n : Nat) (w : World) (b off : Nat) (L : List α) : Prop :=
  ∀ k, (hk : k < L.length) → ∀ i, i < n → w.cell? ⟨b, off + k * n + i, none⟩ = (f L[k])[i]?
/-- A slice that holds a list of records. -/
def SlRows (f : α → List Value) (n : Nat) (w : World) (A : Option Addr) (L : List α) : Prop := L = [] ∨ ∃ b off, A = some ⟨b, off, none⟩ ∧ b < w.heap.size ∧ RowsAt f n w b off L
theorem RowsAt.below {f : α → List Value} {n : Nat} {w w' : World} {b off : Nat} {L : List α} (h : RowsAt f n w b off L) {N : Nat} (hb : Below N w w') (hlt : b < N) : RowsAt f n w' b off L := by
  intro k hk i hi
  rw [← h k hk i hi]
  exact hb.cell (p := ⟨b, _, none⟩) hlt
theorem SlRows.below {f : α → List Value} {n : Nat} {w w' : World} {A : Option Addr} {L : List α} (h : SlRows f n w A L) (hb : Below w.heap.size w w') : SlRows f n w' A L := by
  rcases h with h | ⟨b, off, rfl, hlt, h⟩
  · exact Or.inl h
  · exact Or.inr ⟨b, off, rfl, Nat.lt_of_lt_of_le hlt hb.size, h.below hb hlt⟩
theorem SlRows.any {f : α → List Value} {n : Nat} {w w' : World} {A : Option Addr} {L : List α} {N : Nat} (h : SlRows f n w A L) (hb : Below N w w') (hn : w.heap.size ≤ N) : SlRows f n w' A L := h.below (hb.mono hn)
/-- A part of a list lies where the list lies. -/
theorem RowsAt.part {f : α → List Value} {n : Nat} {w : World} {b off : Nat} {L : List α} (h : RowsAt f n w b off L) (m : Nat) : RowsAt f n w b off (L.take m) := by
  intro k hk i hi
  have hk' : k < L.length := by simp at hk; omega
  rw [h k hk' i hi]; simp
theorem SlRows.part {f : α → List Value} {n : Nat} {w : World} {A : Option Addr} {L : List α} (h : SlRows f n w A L) (m : Nat) : SlRows f n w A (L.take m) := by
  rcases h with h | ⟨b, off, rfl, hlt, h⟩
  · exact Or.inl (by rw [h]; simp)
  · exact Or.inr ⟨b, off, rfl, hlt, h.part m⟩
def rowsV (f : α → List Value) (L : List α) : List Value := L.flatMap f
theorem rowsV_len {f : α → List Value} {n : Nat} (hf : ∀ g, (f g).length = n) (L : List α) : (rowsV f L).length = L.length * n := by
  induction L with
  | nil => simp [rowsV]
  | cons g r ih =>
    show (f g ++ rowsV f r).length = _
    rw [List.length_append, ih, hf]; simp [Nat.add_mul]; omega
theorem rowsV_at {f : α → List Value} {n : Nat} (hf : ∀ g, (f g).length = n) {L : List α} {k : Nat} (hk : k < L.length) {i : Nat} (hi : i < n) : (rowsV f L)[k * n + i]? = (f L[k])[i]? := by
  induction L generalizing k with
  | nil => simp at hk
  | cons g r ih =>
    have e : rowsV f (g :: r) = f g ++ rowsV f r := rfl
    rw [e]
    cases k with
    | zero => rw [List.getElem?_append_left (by rw [hf]; omega)]; simp
    | succ k =>
      rw [List.getElem?_append_right (by rw [hf, Nat.add_mul]; omega), hf, show (k + 1) * n + i - n = k * n + i by rw [Nat.add_mul]; omega, ih (by simpa using hk)]
      simp
theorem addNR (c off j : Nat) : (⟨c, off, none⟩ : Addr).add j = ⟨c, off + j, none⟩ := by
  unfold Addr.add; split
  · rename_i hz; rw [hz]; rfl
  · rfl
theorem rowsV_cells {f : α → List Value} {n : Nat} (hf : ∀ g, (f g).length = n) (hn : 0 < n) {w : World} {c off : Nat} {L : List α} (h : RowsAt f n w c off L) : ∀ j u, (rowsV f L)[j]? = some u → w.cell? ((⟨c, off, none⟩ : Addr).add j) = some u := by
  intro j u hj
  have hl : j < (rowsV f L).length := (List.getElem?_eq_some_iff.1 hj).1
  rw [rowsV_len hf] at hl
  have hk : j / n < L.length := Nat.div_lt_of_lt_mul (by rw [Nat.mul_comm]; exact hl)
  have hm : j % n < n := Nat.mod_lt _ hn
  have e : j / n * n + j % n = j := by rw [Nat.mul_comm]; exact Nat.div_add_mod j n
  rw [addNR]
  have h1 := h (j / n) hk (j % n) hm
  rw [Nat.add_assoc, e] at h1
  have h2 := rowsV_at hf hk hm
  rw [e] at h2
  rw [h1, ← h2, hj]
theorem rows_one {f : α → List Value} (h1 : ∀ g, ∀ u ∈ f g, u.oneCell' = true) (L : List α) : ∀ u ∈ rowsV f L, u.oneCell' = true := by
  intro u hu
  obtain ⟨g, _, hg⟩ := List.mem_flatMap.1 hu
  exact h1 g u hg
theorem SlRows_own {f : α → List Value} {n : Nat} (hf : ∀ g, (f g).length = n) {w : World} {base : Nat} {e : TypeId} {v : Value} {L : List α} (h : w.ownsRow base e n v L.length (rowsV f L)) : ∃ A cap, v = .slice A L.length cap ∧ SlRows f n w A L ∧ (∀ ad, A = some ad → base ≤ ad.block) ∧ (A = none → cap = 0) ∧ L.length ≤ cap ∧ cap ≤ maxLen := by
  rcases h.2 with ⟨rfl, h0⟩ | ⟨g, cap, cur, rfl, hb, hg, hle, hcap, hs, ht⟩
  · refine ⟨none, 0, by rw [h0], Or.inl (List.eq_nil_of_length_eq_zero h0), ?_, fun _ => rfl, by omega, Nat.zero_le _⟩
    intro ad hh
    exact absurd hh (by simp)
  · refine ⟨some ⟨g, 0, none⟩, cap, rfl, Or.inr ⟨g, 0, rfl, (Array.getElem?_eq_some_iff.1 hg).1, ?_⟩, (fun _ h => by cases h; exact hb), (fun h => by cases h), hle, hcap⟩
    intro k hk i hi
    have c := World.ownsRow.cells h (g := g) rfl
    have hlt : i < (f L[k]).length := by rw [hf]; exact hi
    have q := rowsV_at hf hk hi
    rw [List.getElem?_eq_getElem hlt] at q
    have r := c _ _ q
    rw [addNR] at r
    rw [show 0 + k * n + i = 0 + (k * n + i) by omega, r, List.getElem?_eq_getElem hlt]
end
end Go.Proofs.YtijdphlejokijaaGreat

namespace Go.Proofs.YtijdphlejokijaaGreat
open Go.ChangeShapes Go.WideShapes Go.ChangeAt Go.RowKit
set_option linter.unusedVariables false
set_option linter.unusedSimpArgs false
/-- A block of the call's own: made at B or later. -/
structure BlkF (u : World) (B b : Nat) (vs : List Value) : Prop where
  ge : B ≤ b
  lt : b < u.heap.size
  at' : ∀ i v, vs[i]? = some v → u.cell? ⟨b, i, none⟩ = some v
  fz : ∀ j, u.frozen? ⟨b, j, none⟩ = false
theorem BlkF.below {u u' : World} {B b : Nat} {vs : List Value} (h : BlkF u B b vs) (hb : Below u.heap.size u u') : BlkF u' B b vs :=
  ⟨h.ge, Nat.lt_of_lt_of_le h.lt hb.size, fun i v hv => (hb.cell (p := ⟨b, i, none⟩) h.lt).trans (h.at' i v hv), fun j => (hb.frozen (p := ⟨b, j, none⟩) h.lt).trans (h.fz j)⟩
theorem BlkF.made {B : Nat} (u : World) (vs : List Value) (t : TypeId) (h : B ≤ u.heap.size) : BlkF (u.alloc (.cells vs.toArray t)) B u.heap.size vs :=
  ⟨h, by simp, fun i v hv => by simp [go_sem, hv], fun j => by simp [go_sem]⟩
/-- Stores into a block, one cell behind the other. -/
def stW (u : World) (b : Nat) : Nat → List Value → World
  | _, [] => u
  | i, v :: l => stW (u.setCell ⟨b, i, none⟩ v) b (i + 1) l
theorem stW_size (b : Nat) : ∀ (l : List Value) (u : World) (i : Nat), (stW u b i l).heap.size = u.heap.size
  | [], _, _ => rfl
  | v :: l, u, i => (stW_size b l _ _).trans (by simp)
theorem stW_frozen (b : Nat) (a : Addr) : ∀ (l : List Value) (u : World) (i : Nat), (stW u b i l).frozen? a = u.frozen? a
  | [], _, _ => rfl
  | v :: l, u, i => (stW_frozen b a l _ _).trans (World.frozen?_setCell _ _ _ _)
theorem stW_other (b : Nat) {c : Nat} (hc : c ≠ b) : ∀ (l : List Value) (u : World) (i : Nat), (stW u b i l).heap[c]? = u.heap[c]?
  | [], _, _ => rfl
  | v :: l, u, i => (stW_other b hc l _ _).trans (Below.heap_setCell _ _ _ _ hc)
theorem stW_oc {u : World} {b c : Nat} {i : Nat} {l : List Value} (hc : c ≠ b) (o : Nat) : (stW u b i l).cell? ⟨c, o, none⟩ = u.cell? ⟨c, o, none⟩ := World.cell?_of_block (a := ⟨c, o, none⟩) (stW_other b hc l u i)
theorem cell_offB {w : World} {b i j : Nat} {v : Value} (h : i ≠ j) : (w.setCell ⟨b, i, none⟩ v).cell? ⟨b, j, none⟩ = w.cell? ⟨b, j, none⟩ := by simp [go_sem, h]
theorem cell_sameB {w : World} {b i : Nat} {v x : Value} (h : w.cell? ⟨b, i, none⟩ = some x) : (w.setCell ⟨b, i, none⟩ v).cell? ⟨b, i, none⟩ = some v := by simp [go_sem, h]
theorem stW_at (b : Nat) : ∀ (l : List Value) (u : World) (i j : Nat), (∀ k, k < l.length → ∃ x, u.cell? ⟨b, i + k, none⟩ = some x) →
    (stW u b i l).cell? ⟨b, j, none⟩ = if i ≤ j ∧ j < i + l.length then l[j - i]? else u.cell? ⟨b, j, none⟩
  | [], u, i, j, _ => by
    show u.cell? _ = _
    rw [if_neg (by simp)]
  | v :: l, u, i, j, h => by
    obtain ⟨x, hx⟩ := h 0 (by simp)
    have h' : ∀ k, k < l.length → ∃ x, (u.setCell ⟨b, i, none⟩ v).cell? ⟨b, i + 1 + k, none⟩ = some x := fun k hk => by
      obtain ⟨y, hy⟩ := h (k + 1) (by simpa using hk)
      exact ⟨y, by rw [cell_offB (by omega), show i + 1 + k = i + (k + 1) by omega]; exact hy⟩
    show (stW (u.setCell ⟨b, i, none⟩ v) b (i + 1) l).cell? _ = _
    rw [stW_at b l _ (i + 1) j h']
    simp only [List.length_cons]
    by_cases e : j = i
    · subst e
      rw [if_neg (by omega), if_pos (by omega), Nat.sub_self]
      exact cell_sameB hx
    · by_cases g : i ≤ j ∧ j < i + (l.length + 1)
      · rw [if_pos (by omega), if_pos g, show j - i = (j - (i + 1)) + 1 by omega]
        rfl
      · rw [if_neg (by omega), if_neg g, cell_offB (by omega)]
theorem BlkF.st {u : World} {B b : Nat} {vs vs' : List Value} (h : BlkF u B b vs) (hl : vs'.length = vs.length) : BlkF (stW u b 0 vs') B b vs' := by
  refine ⟨h.ge, by rw [stW_size]; exact h.lt, fun i v hv => ?_, fun j => by rw [stW_frozen]; exact h.fz j⟩
  have hi : i < vs'.length := (List.getElem?_eq_some_iff.1 hv).1
  rw [stW_at b vs' u 0 i (fun k hk => ⟨vs[k]'(by omega), h.at' _ _ (by rw [Nat.zero_add]; exact List.getElem?_eq_getElem _)⟩), if_pos (by omega)]
  exact hv
theorem stW_below {N : Nat} {w : World} {b : Nat} (hN : N ≤ b) : ∀ (l : List Value) (u : World) (i : Nat), Below N w u → Below N w (stW u b i l)
  | [], _, _, h => h
  | v :: l, u, i, h => stW_below hN l _ _ (h.setCell (p := ⟨b, i, none⟩) hN v)
theorem BlkF.other {u : World} {B b c i : Nat} {vs l : List Value} (h : BlkF u B b vs) (hc : b ≠ c) : BlkF (stW u c i l) B b vs :=
  ⟨h.ge, by rw [stW_size]; exact h.lt, fun i v hv => (stW_oc hc _).trans (h.at' i v hv), fun j => by rw [stW_frozen]; exact h.fz j⟩
theorem BlkF.drew {u : World} {B b : Nat} {vs : List Value} (h : BlkF u B b vs) : BlkF u.drew B b vs := h.below (Below.refl _ _).drew
theorem RowsAt.other {α : Type} {f : α → List Value} {n : Nat} {u : World} {b off c i : Nat} {l : List Value} {H : List α} (h : RowsAt f n u b off H) (hc : b ≠ c) : RowsAt f n (stW u c i l) b off H := fun k hk j hj => (stW_oc hc _).trans (h k hk j hj)
/-- A record of a list is stored anew. -/
theorem RowsAt.st {α : Type} {f : α → List Value} {n : Nat} (hf : ∀ g, (f g).length = n) {u : World} {b : Nat} {H : List α} (h : RowsAt f n u b 0 H) {q : Nat} (hq : q < H.length) (g : α) : RowsAt f n (stW u b (q * n) (f g)) b 0 (H.set q g) := by
  intro k hk i hi
  have hk' : k < H.length := by simpa using hk
  have hc : ∀ j, j < (f g).length → ∃ x, u.cell? ⟨b, q * n + j, none⟩ = some x := fun j hj => by
    rw [hf] at hj
    have := h q hq j hj
    rw [Nat.zero_add] at this
    exact ⟨(f H[q])[j]'(by rw [hf]; exact hj), this.trans (List.getElem?_eq_getElem _)⟩
  rw [stW_at b (f g) u _ _ hc, hf, Nat.zero_add, List.getElem_set]
  by_cases e : q = k
  · subst e
    rw [if_pos rfl, if_pos (by omega), show q * n + i - q * n = i by omega]
  · rw [if_neg e, if_neg]
    · have := h k hk' i hi
      rw [Nat.zero_add] at this
      exact this
    · rintro ⟨h1, h2⟩
      apply e
      rcases Nat.lt_trichotomy q k with hlt | h0 | hlt
      · have : (q + 1) * n ≤ k * n := Nat.mul_le_mul_right n hlt
        rw [Nat.add_mul] at this; omega
      · exact h0
      · have : (k + 1) * n ≤ q * n := Nat.mul_le_mul_right n hlt
        rw [Nat.add_mul] at this; omega
theorem b1 {u : World} {B b : Nat} {v : Value} (h : BlkF u B b [v]) : u.cell? ⟨b, 0, none⟩ = some v := h.at' 0 _ rfl
theorem b2 {u : World} {B b : Nat} {v0 v1 : Value} (h : BlkF u B b [v0, v1]) : u.cell? ⟨b, 0, none⟩ = some v0 ∧ u.cell? ⟨b, 1, none⟩ = some v1 := ⟨h.at' 0 _ rfl, h.at' 1 _ rfl⟩
theorem b3 {u : World} {B b : Nat} {v0 v1 v2 : Value} (h : BlkF u B b [v0, v1, v2]) : u.cell? ⟨b, 0, none⟩ = some v0 ∧ u.cell? ⟨b, 1, none⟩ = some v1 ∧ u.cell? ⟨b, 2, none⟩ = some v2 := ⟨h.at' 0 _ rfl, h.at' 1 _ rfl, h.at' 2 _ rfl⟩
theorem b4 {u : World} {B b : Nat} {v0 v1 v2 v3 : Value} (h : BlkF u B b [v0, v1, v2, v3]) : u.cell? ⟨b, 0, none⟩ = some v0 ∧ u.cell? ⟨b, 1, none⟩ = some v1 ∧ u.cell? ⟨b, 2, none⟩ = some v2 ∧ u.cell? ⟨b, 3, none⟩ = some v3 := ⟨h.at' 0 _ rfl, h.at' 1 _ rfl, h.at' 2 _ rfl, h.at' 3 _ rfl⟩
theorem b6 {u : World} {B b : Nat} {v0 v1 v2 v3 v4 v5 : Value} (h : BlkF u B b [v0, v1, v2, v3, v4, v5]) : u.cell? ⟨b, 0, none⟩ = some v0 ∧ u.cell? ⟨b, 1, none⟩ = some v1 ∧ u.cell? ⟨b, 2, none⟩ = some v2 ∧ u.cell? ⟨b, 3, none⟩ = some v3 ∧ u.cell? ⟨b, 4, none⟩ = some v4 ∧ u.cell? ⟨b, 5, none⟩ = some v5 := ⟨h.at' 0 _ rfl, h.at' 1 _ rfl, h.at' 2 _ rfl, h.at' 3 _ rfl, h.at' 4 _ rfl, h.at' 5 _ rfl⟩
theorem ex_world {Q : World → Prop} {w : World} (R : World → Prop) (h : R w) (k : ∀ X, R X → Q X) : Q w := k w h
end Go.Proofs.YtijdphlejokijaaGreat
