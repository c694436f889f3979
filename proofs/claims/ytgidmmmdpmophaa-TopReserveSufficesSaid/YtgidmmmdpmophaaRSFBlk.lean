import Derived.Test.YtgidmmmdpmophaaRSFRows2
import Derived.Outline
namespace Go.Proofs.Ytgidmmmdpmophaa
open Go.ChangeShapes Go.WideShapes Go.ChangeAt Go.RowKit
set_option linter.unusedVariables false
set_option linter.unusedSimpArgs false
/-- A block of the call's own: made at B or later. -/
structure BlkF (u : World) (B b : Nat) (vs : List Value) : Prop where
  ge : B ≤ b
  lt : b < u.heap.size
  at' : ∀ i v, vs[i]? = some v → u.cell? ⟨b, i, none⟩ = some v
  fz : ∀ j, u.frozen? ⟨b, j, none⟩ = false
theorem BlkF.below {u u' : World} {B b : Nat} {vs : List Value} (h : BlkF u B b vs) (hb : Below u.heap.size u u') : BlkF u' B b vs :=
  ⟨h.ge, Nat.lt_of_lt_of_le h.lt hb.size, fun i v hv => (hb.cell (p := ⟨b, i, none⟩) h.lt).trans (h.at' i v hv), fun j => (hb.frozen (p := ⟨b, j, none⟩) h.lt).trans (h.fz j)⟩
theorem BlkF.made {B : Nat} (u : World) (vs : List Value) (t : TypeId) (h : B ≤ u.heap.size) : BlkF (u.alloc (.cells vs.toArray t)) B u.heap.size vs :=
  ⟨h, by simp, fun i v hv => by simp [go_sem, hv], fun j => by simp [go_sem]⟩
/-- Stores into a block, one cell behind the other. -/
def stW (u : World) (b : Nat) : Nat → List Value → World
  | _, [] => u
  | i, v :: l => stW (u.setCell ⟨b, i, none⟩ v) b (i + 1) l
theorem stW_size (b : Nat) : ∀ (l : List Value) (u : World) (i : Nat), (stW u b i l).heap.size = u.heap.size
  | [], _, _ => rfl
  | v :: l, u, i => (stW_size b l _ _).trans (by simp)
theorem stW_frozen (b : Nat) (a : Addr) : ∀ (l : List Value) (u : World) (i : Nat), (stW u b i l).frozen? a = u.frozen? a
  | [], _, _ => rfl
  | v :: l, u, i => (stW_frozen b a l _ _).trans (World.frozen?_setCell _ _ _ _)
theorem stW_other (b : Nat) {c : Nat} (hc : c ≠ b) : ∀ (l : List Value) (u : World) (i : Nat), (stW u b i l).heap[c]? = u.heap[c]?
  | [], _, _ => rfl
  | v :: l, u, i => (stW_other b hc l _ _).trans (Below.heap_setCell _ _ _ _ hc)
theorem stW_oc {u : World} {b c : Nat} {i : Nat} {l : List Value} (hc : c ≠ b) (o : Nat) : (stW u b i l).cell? ⟨c, o, none⟩ = u.cell? ⟨c, o, none⟩ := World.cell?_of_block (a := ⟨c, o, none⟩) (stW_other b hc l u i)
theorem cell_offB {w : World} {b i j : Nat} {v : Value} (h : i ≠ j) : (w.setCell ⟨b, i, none⟩ v).cell? ⟨b, j, none⟩ = w.cell? ⟨b, j, none⟩ := by simp [go_sem, h]
theorem cell_sameB {w : World} {b i : Nat} {v x : Value} (h : w.cell? ⟨b, i, none⟩ = some x) : (w.setCell ⟨b, i, none⟩ v).cell? ⟨b, i, none⟩ = some v := by simp [go_sem, h]
theorem stW_at (b : Nat) : ∀ (l : List Value) (u : World) (i j : Nat), (∀ k, k < l.length → ∃ x, u.cell? ⟨b, i + k, none⟩ = some x) →
    (stW u b i l).cell? ⟨b, j, none⟩ = if i ≤ j ∧ j < i + l.length then l[j - i]? else u.cell? ⟨b, j, none⟩
  | [], u, i, j, _ => by
    show u.cell? _ = _
    rw [if_neg (by simp)]
  | v :: l, u, i, j, h => by
    obtain ⟨x, hx⟩ := h 0 (by simp)
    have h' : ∀ k, k < l.length → ∃ x, (u.setCell ⟨b, i, none⟩ v).cell? ⟨b, i + 1 + k, none⟩ = some x := fun k hk => by
      obtain ⟨y, hy⟩ := h (k + 1) (by simpa using hk)
      exact ⟨y, by rw [cell_offB (by omega), show i + 1 + k = i + (k + 1) by omega]; exact hy⟩
    show (stW (u.setCell ⟨b, i, none⟩ v) b (i + 1) l).cell? _ = _
    rw [stW_at b l _ (i + 1) j h']
    simp only [List.length_cons]
    by_cases e : j = i
    · subst e
      rw [if_neg (by omega), if_pos (by omega), Nat.sub_self]
      exact cell_sameB hx
    · by_cases g : i ≤ j ∧ j < i + (l.length + 1)
      · rw [if_pos (by omega), if_pos g, show j - i = (j - (i + 1)) + 1 by omega]
        rfl
      · rw [if_neg (by omega), if_neg g, cell_offB (by omega)]
theorem BlkF.st {u : World} {B b : Nat} {vs vs' : List Value} (h : BlkF u B b vs) (hl : vs'.length = vs.length) : BlkF (stW u b 0 vs') B b vs' := by
  refine ⟨h.ge, by rw [stW_size]; exact h.lt, fun i v hv => ?_, fun j => by rw [stW_frozen]; exact h.fz j⟩
  have hi : i < vs'.length := (List.getElem?_eq_some_iff.1 hv).1
  rw [stW_at b vs' u 0 i (fun k hk => ⟨vs[k]'(by omega), h.at' _ _ (by rw [Nat.zero_add]; exact List.getElem?_eq_getElem _)⟩), if_pos (by omega)]
  exact hv
theorem stW_below {N : Nat} {w : World} {b : Nat} (hN : N ≤ b) : ∀ (l : List Value) (u : World) (i : Nat), Below N w u → Below N w (stW u b i l)
  | [], _, _, h => h
  | v :: l, u, i, h => stW_below hN l _ _ (h.setCell (p := ⟨b, i, none⟩) hN v)
theorem BlkF.other {u : World} {B b c i : Nat} {vs l : List Value} (h : BlkF u B b vs) (hc : b ≠ c) : BlkF (stW u c i l) B b vs :=
  ⟨h.ge, by rw [stW_size]; exact h.lt, fun i v hv => (stW_oc hc _).trans (h.at' i v hv), fun j => by rw [stW_frozen]; exact h.fz j⟩
theorem BlkF.drew {u : World} {B b : Nat} {vs : List Value} (h : BlkF u B b vs) : BlkF u.drew B b vs := h.below (Below.refl _ _).drew
theorem RowsAt.other {α : Type} {f : α → List Value} {n : Nat} {u : World} {b off c i : Nat} {l : List Value} {H : List α} (h : RowsAt f n u b off H) (hc : b ≠ c) : RowsAt f n (stW u c i l) b off H := fun k hk j hj => (stW_oc hc _).trans (h k hk j hj)
/-- A record of a list is stored anew. -/
theorem RowsAt.st {α : Type} {f : α → List Value} {n : Nat} (hf : ∀ g, (f g).length = n) {u : World} {b : Nat} {H : List α} (h : RowsAt f n u b 0 H) {q : Nat} (hq : q < H.length) (g : α) : RowsAt f n (stW u b (q * n) (f g)) b 0 (H.set q g) := by
  intro k hk i hi
  have hk' : k < H.length := by simpa using hk
  have hc : ∀ j, j < (f g).length → ∃ x, u.cell? ⟨b, q * n + j, none⟩ = some x := fun j hj => by
    rw [hf] at hj
    have := h q hq j hj
    rw [Nat.zero_add] at this
    exact ⟨(f H[q])[j]'(by rw [hf]; exact hj), this.trans (List.getElem?_eq_getElem _)⟩
  rw [stW_at b (f g) u _ _ hc, hf, Nat.zero_add, List.getElem_set]
  by_cases e : q = k
  · subst e
    rw [if_pos rfl, if_pos (by omega), show q * n + i - q * n = i by omega]
  · rw [if_neg e, if_neg]
    · have := h k hk' i hi
      rw [Nat.zero_add] at this
      exact this
    · rintro ⟨h1, h2⟩
      apply e
      rcases Nat.lt_trichotomy q k with hlt | h0 | hlt
      · have : (q + 1) * n ≤ k * n := Nat.mul_le_mul_right n hlt
        rw [Nat.add_mul] at this; omega
      · exact h0
      · have : (k + 1) * n ≤ q * n := Nat.mul_le_mul_right n hlt
        rw [Nat.add_mul] at this; omega
theorem b1 {u : World} {B b : Nat} {v : Value} (h : BlkF u B b [v]) : u.cell? ⟨b, 0, none⟩ = some v := h.at' 0 _ rfl
theorem b2 {u : World} {B b : Nat} {v0 v1 : Value} (h : BlkF u B b [v0, v1]) : u.cell? ⟨b, 0, none⟩ = some v0 ∧ u.cell? ⟨b, 1, none⟩ = some v1 := ⟨h.at' 0 _ rfl, h.at' 1 _ rfl⟩
theorem b3 {u : World} {B b : Nat} {v0 v1 v2 : Value} (h : BlkF u B b [v0, v1, v2]) : u.cell? ⟨b, 0, none⟩ = some v0 ∧ u.cell? ⟨b, 1, none⟩ = some v1 ∧ u.cell? ⟨b, 2, none⟩ = some v2 := ⟨h.at' 0 _ rfl, h.at' 1 _ rfl, h.at' 2 _ rfl⟩
theorem b4 {u : World} {B b : Nat} {v0 v1 v2 v3 : Value} (h : BlkF u B b [v0, v1, v2, v3]) : u.cell? ⟨b, 0, none⟩ = some v0 ∧ u.cell? ⟨b, 1, none⟩ = some v1 ∧ u.cell? ⟨b, 2, none⟩ = some v2 ∧ u.cell? ⟨b, 3, none⟩ = some v3 := ⟨h.at' 0 _ rfl, h.at' 1 _ rfl, h.at' 2 _ rfl, h.at' 3 _ rfl⟩
theorem b6 {u : World} {B b : Nat} {v0 v1 v2 v3 v4 v5 : Value} (h : BlkF u B b [v0, v1, v2, v3, v4, v5]) : u.cell? ⟨b, 0, none⟩ = some v0 ∧ u.cell? ⟨b, 1, none⟩ = some v1 ∧ u.cell? ⟨b, 2, none⟩ = some v2 ∧ u.cell? ⟨b, 3, none⟩ = some v3 ∧ u.cell? ⟨b, 4, none⟩ = some v4 ∧ u.cell? ⟨b, 5, none⟩ = some v5 := ⟨h.at' 0 _ rfl, h.at' 1 _ rfl, h.at' 2 _ rfl, h.at' 3 _ rfl, h.at' 4 _ rfl, h.at' 5 _ rfl⟩
theorem ex_world {Q : World → Prop} {w : World} (R : World → Prop) (h : R w) (k : ∀ X, R X → Q X) : Q w := k w h
end Go.Proofs.Ytgidmmmdpmophaa
