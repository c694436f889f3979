import Derived.Test.YtfaodlcfjhnhbaaLeaf
import Derived.Outline
/- What gas.DepthsFor returns. -/
namespace Go.Proofs.Ytfaodlcfjhnhbaa
open Go.ChangeShapes Go.WideShapes Go.ChangeAt Go.RowKit
set_option linter.unusedVariables false

def depP (o h s a b : Int) : Int := firE [gasE o h, rngE s 400 1100, limE a b]
def depLo (o s a : Int) : Int := if s < (1000 * a + o - 1) / o then (1000 * a + o - 1) / o - s else 0
def depHi (o s b : Int) : Int := if 1000 * b / o - s < 30000 then 1000 * b / o - s else 30000
theorem depLo_cases (o s a : Int) : (s < (1000 * a + o - 1) / o ∧ Hid (depLo o s a = (1000 * a + o - 1) / o - s)) ∨ (¬ s < (1000 * a + o - 1) / o ∧ Hid (depLo o s a = 0)) := by
  unfold depLo Hid
  by_cases c : s < (1000 * a + o - 1) / o
  · exact Or.inl ⟨c, if_pos c⟩
  · exact Or.inr ⟨c, if_neg c⟩
theorem depHi_cases (o s b : Int) : (1000 * b / o - s < 30000 ∧ Hid (depHi o s b = 1000 * b / o - s)) ∨ (¬ 1000 * b / o - s < 30000 ∧ Hid (depHi o s b = 30000)) := by
  unfold depHi Hid
  by_cases c : 1000 * b / o - s < 30000
  · exact Or.inl ⟨c, if_pos c⟩
  · exact Or.inr ⟨c, if_neg c⟩
def depE (o h s a b : Int) : Int := if depP o h s a b = 0 then (if o = 0 then 12 else if depLo o s a ≤ depHi o s b then 0 else 12) else depP o h s a b
def depL (o h s a b : Int) : Int := if depE o h s a b = 0 then depLo o s a else 0
def depH (o h s a b : Int) : Int := if depE o h s a b = 0 then depHi o s b else 0
/-- What is right where no error is found. -/
theorem firE3_z {x y z : Int} (h : firE [x, y, z] = 0) : x = 0 ∧ y = 0 ∧ z = 0 := by
  simp only [firE] at h
  split at h
  · split at h
    · split at h
      · exact ⟨‹_›, ‹_›, ‹_›⟩
      · exact absurd h ‹_›
    · exact absurd h ‹_›
  · exact absurd h ‹_›
theorem firE2_z {x y : Int} (h : firE [x, y] = 0) : x = 0 ∧ y = 0 := by
  simp only [firE] at h
  split at h
  · split at h
    · exact ⟨‹_›, ‹_›⟩
    · exact absurd h ‹_›
  · exact absurd h ‹_›
theorem firE4_z {x y z u : Int} (h : firE [x, y, z, u] = 0) : x = 0 ∧ y = 0 ∧ z = 0 ∧ u = 0 := by
  simp only [firE] at h
  split at h
  · split at h
    · split at h
      · split at h
        · exact ⟨‹_›, ‹_›, ‹_›, ‹_›⟩
        · exact absurd h ‹_›
      · exact absurd h ‹_›
    · exact absurd h ‹_›
  · exact absurd h ‹_›
theorem rngE_z {n a b : Int} (h : rngE n a b = 0) : a ≤ n ∧ n ≤ b := by
  rcases inB_cases n a b with k | k
  · exact inB_iff.1 k
  · rw [rngE_f k] at h; omega
theorem gasE_z {o h : Int} (k : gasE o h = 0) : 0 ≤ o ∧ o ≤ 1000 ∧ 0 ≤ h ∧ h ≤ 1000 ∧ o + h ≤ 1000 := by
  unfold gasE at k
  split at k
  · obtain ⟨k1, k2⟩ := ‹_ ∧ _›
    have := inB_iff.1 k1
    have := inB_iff.1 k2
    split at k <;> omega
  · omega
theorem limE_z {a b : Int} (k : limE a b = 0) : 1 ≤ a ∧ a ≤ 4000 ∧ 1 ≤ b ∧ b ≤ 4000 ∧ a ≤ b := by
  unfold limE at k
  split at k
  · obtain ⟨k1, k2⟩ := firE2_z (x := rngE a 1 4000) (y := rngE b 1 4000) ‹_›
    have := rngE_z k1
    have := rngE_z k2
    split at k <;> omega
  · exact absurd k ‹_›
theorem depP_z {o h s a b : Int} (k : depP o h s a b = 0) : (0 ≤ o ∧ o ≤ 1000 ∧ 0 ≤ h ∧ h ≤ 1000 ∧ o + h ≤ 1000) ∧ (400 ≤ s ∧ s ≤ 1100) ∧ 1 ≤ a ∧ a ≤ 4000 ∧ 1 ≤ b ∧ b ≤ 4000 ∧ a ≤ b := by
  obtain ⟨k1, k2, k3⟩ := firE3_z (show firE [gasE o h, rngE s 400 1100, limE a b] = 0 from k)
  exact ⟨gasE_z k1, rngE_z k2, limE_z k3⟩

end Go.Proofs.Ytfaodlcfjhnhbaa

/- What shotlinebase.Floor and shotlinebase.Ceil return for numbers that are not negative. -/
namespace Go.Proofs.Ytfaodlcfjhnhbaa
open Go.ChangeShapes Go.WideShapes Go.ChangeAt Go.RowKit
set_option linter.unusedVariables false

theorem ceil_z {n d : Int} (h0 : 0 ≤ n) (h2 : 0 < d) (hr : n % d = 0) : (n + d - 1) / d = n / d := by
  have h := Int.emod_add_mul_ediv n d
  rw [hr, Int.zero_add] at h
  rw [← h, show d * (n / d) + d - 1 = (d - 1) + d * (n / d) by omega, Int.add_mul_ediv_left _ _ (by omega), Int.ediv_eq_zero_of_lt (by omega) (by omega), Int.mul_ediv_cancel_left _ (by omega)]
  omega
theorem ceil_s {n d : Int} (h0 : 0 ≤ n) (h2 : 0 < d) (hr : 0 < n % d) : (n + d - 1) / d = n / d + 1 := by
  have h := Int.emod_add_mul_ediv n d
  have hl := Int.emod_lt_of_pos n h2
  have e : n + d - 1 = (n % d - 1) + d * (n / d + 1) := by rw [Int.mul_add]; omega
  rw [e, Int.add_mul_ediv_left _ _ (by omega), Int.ediv_eq_zero_of_lt (by omega) (by omega)]
  omega
end Go.Proofs.Ytfaodlcfjhnhbaa

/- Stores of four and of five numbers into a block, and what a new block holds. -/
namespace Go.Proofs.Ytfaodlcfjhnhbaa
open Go.ChangeShapes Go.WideShapes Go.ChangeAt Go.RowKit
set_option linter.unusedVariables false
set_option linter.unusedSimpArgs false
theorem cell_same {w : World} {b i : Nat} {u v : Value} (h : w.cell? ⟨b, i, none⟩ = some v) : (w.setCell ⟨b, i, none⟩ u).cell? ⟨b, i, none⟩ = some u := World.cell?_setCell_same' _ _ _ (by rw [h]; rfl)
theorem cell_off {w : World} {b i c j : Nat} {u : Value} (h : c ≠ b ∨ j ≠ i) : (w.setCell ⟨b, i, none⟩ u).cell? ⟨c, j, none⟩ = w.cell? ⟨c, j, none⟩ := by
  have h1 : (b = c → i ≠ j) := by
    intro e e2
    rcases h with h | h
    · exact h e.symm
    · exact h e2.symm
  by_cases hb : b = c
  · subst hb
    have := h1 rfl
    simp [go_sem, this]
  · simp [go_sem, hb]
theorem size_set (w : World) (a : Addr) (u : Value) : (w.setCell a u).heap.size = w.heap.size := by simp [World.setCell]
def set4 (X : World) (b : Nat) (u0 u1 u2 u3 : Value) : World := ((((X).setCell ⟨b, 0, none⟩ u0).setCell ⟨b, 1, none⟩ u1).setCell ⟨b, 2, none⟩ u2).setCell ⟨b, 3, none⟩ u3
theorem set4_is {X : World} {b : Nat} (u0 u1 u2 u3 : Value) (h : ∀ i, i < 4 → ∃ v, X.cell? ⟨b, i, none⟩ = some v) (hf : ∀ j, X.frozen? ⟨b, j, none⟩ = false) :
    (set4 X b u0 u1 u2 u3).cell? ⟨b, 0, none⟩ = some u0 ∧ (set4 X b u0 u1 u2 u3).cell? ⟨b, 1, none⟩ = some u1 ∧ (set4 X b u0 u1 u2 u3).cell? ⟨b, 2, none⟩ = some u2 ∧ (set4 X b u0 u1 u2 u3).cell? ⟨b, 3, none⟩ = some u3 ∧ (∀ j, (set4 X b u0 u1 u2 u3).frozen? ⟨b, j, none⟩ = false) ∧ (∀ c o, c ≠ b → (set4 X b u0 u1 u2 u3).cell? ⟨c, o, none⟩ = X.cell? ⟨c, o, none⟩) ∧ (∀ k, k ≠ b → (set4 X b u0 u1 u2 u3).heap[k]? = X.heap[k]?) ∧ (set4 X b u0 u1 u2 u3).heap.size = X.heap.size := by
  obtain ⟨v0, h0⟩ := h 0 (by omega)
  obtain ⟨v1, h1⟩ := h 1 (by omega)
  obtain ⟨v2, h2⟩ := h 2 (by omega)
  obtain ⟨v3, h3⟩ := h 3 (by omega)
  unfold set4
  refine ⟨?_, ?_, ?_, ?_, ?_, ?_, ?_, ?_⟩
  · rw [cell_off (Or.inr (by omega))]; rw [cell_off (Or.inr (by omega))]; rw [cell_off (Or.inr (by omega))]; exact cell_same h0
  · rw [cell_off (Or.inr (by omega))]; rw [cell_off (Or.inr (by omega))]; refine cell_same (v := v1) ?_; rw [cell_off (Or.inr (by omega))]; exact h1
  · rw [cell_off (Or.inr (by omega))]; refine cell_same (v := v2) ?_; rw [cell_off (Or.inr (by omega))]; rw [cell_off (Or.inr (by omega))]; exact h2
  · refine cell_same (v := v3) ?_; rw [cell_off (Or.inr (by omega))]; rw [cell_off (Or.inr (by omega))]; rw [cell_off (Or.inr (by omega))]; exact h3
  · intro j; simp only [World.frozen?_setCell]; exact hf j
  · intro c o hc; rw [cell_off (Or.inl hc)]; rw [cell_off (Or.inl hc)]; rw [cell_off (Or.inl hc)]; rw [cell_off (Or.inl hc)]
  · intro k hk; rw [Below.heap_setCell _ _ _ _ hk]; rw [Below.heap_setCell _ _ _ _ hk]; rw [Below.heap_setCell _ _ _ _ hk]; rw [Below.heap_setCell _ _ _ _ hk]
  · simp only [size_set]
theorem set4_below {a X : World} {N b : Nat} {u0 u1 u2 u3 : Value} (h : Below N a X) (hb : N ≤ b) : Below N a (set4 X b u0 u1 u2 u3) := ((((((((h).setCell (p := ⟨b, 0, none⟩) hb u0)).setCell (p := ⟨b, 1, none⟩) hb u1)).setCell (p := ⟨b, 2, none⟩) hb u2)).setCell (p := ⟨b, 3, none⟩) hb u3)
theorem new4_is (w : World) (u0 u1 u2 u3 : Value) (T : TypeId) : (∀ i, i < 4 → ∃ v, (w.alloc (.cells #[u0, u1, u2, u3] T)).cell? ⟨w.heap.size, i, none⟩ = some v) ∧ (∀ j, (w.alloc (.cells #[u0, u1, u2, u3] T)).frozen? ⟨w.heap.size, j, none⟩ = false) := by
  constructor
  · intro i hi
    obtain rfl | rfl | rfl | rfl : i = 0 ∨ i = 1 ∨ i = 2 ∨ i = 3 := by omega
    all_goals exact ⟨_, by simp [go_sem]; rfl⟩
  · intro j; simp [go_sem]
theorem has4_below {w w' : World} {b N : Nat} (h : (∀ i, i < 4 → ∃ v, w.cell? ⟨b, i, none⟩ = some v) ∧ (∀ j, w.frozen? ⟨b, j, none⟩ = false)) (hB : Below N w w') (hb : b < N) : (∀ i, i < 4 → ∃ v, w'.cell? ⟨b, i, none⟩ = some v) ∧ (∀ j, w'.frozen? ⟨b, j, none⟩ = false) :=
  ⟨fun i hi => by obtain ⟨v, hv⟩ := h.1 i hi; exact ⟨v, (hB.cell (p := ⟨b, i, none⟩) hb).trans hv⟩, fun j => (hB.frozen (p := ⟨b, j, none⟩) hb).trans (h.2 j)⟩
def set5 (X : World) (b : Nat) (u0 u1 u2 u3 u4 : Value) : World := (((((X).setCell ⟨b, 0, none⟩ u0).setCell ⟨b, 1, none⟩ u1).setCell ⟨b, 2, none⟩ u2).setCell ⟨b, 3, none⟩ u3).setCell ⟨b, 4, none⟩ u4
theorem set5_is {X : World} {b : Nat} (u0 u1 u2 u3 u4 : Value) (h : ∀ i, i < 5 → ∃ v, X.cell? ⟨b, i, none⟩ = some v) (hf : ∀ j, X.frozen? ⟨b, j, none⟩ = false) :
    (set5 X b u0 u1 u2 u3 u4).cell? ⟨b, 0, none⟩ = some u0 ∧ (set5 X b u0 u1 u2 u3 u4).cell? ⟨b, 1, none⟩ = some u1 ∧ (set5 X b u0 u1 u2 u3 u4).cell? ⟨b, 2, none⟩ = some u2 ∧ (set5 X b u0 u1 u2 u3 u4).cell? ⟨b, 3, none⟩ = some u3 ∧ (set5 X b u0 u1 u2 u3 u4).cell? ⟨b, 4, none⟩ = some u4 ∧ (∀ j, (set5 X b u0 u1 u2 u3 u4).frozen? ⟨b, j, none⟩ = false) ∧ (∀ c o, c ≠ b → (set5 X b u0 u1 u2 u3 u4).cell? ⟨c, o, none⟩ = X.cell? ⟨c, o, none⟩) ∧ (∀ k, k ≠ b → (set5 X b u0 u1 u2 u3 u4).heap[k]? = X.heap[k]?) ∧ (set5 X b u0 u1 u2 u3 u4).heap.size = X.heap.size := by
  obtain ⟨v0, h0⟩ := h 0 (by omega)
  obtain ⟨v1, h1⟩ := h 1 (by omega)
  obtain ⟨v2, h2⟩ := h 2 (by omega)
  obtain ⟨v3, h3⟩ := h 3 (by omega)
  obtain ⟨v4, h4⟩ := h 4 (by omega)
  unfold set5
  refine ⟨?_, ?_, ?_, ?_, ?_, ?_, ?_, ?_, ?_⟩
  · rw [cell_off (Or.inr (by omega))]; rw [cell_off (Or.inr (by omega))]; rw [cell_off (Or.inr (by omega))]; rw [cell_off (Or.inr (by omega))]; exact cell_same h0
  · rw [cell_off (Or.inr (by omega))]; rw [cell_off (Or.inr (by omega))]; rw [cell_off (Or.inr (by omega))]; refine cell_same (v := v1) ?_; rw [cell_off (Or.inr (by omega))]; exact h1
  · rw [cell_off (Or.inr (by omega))]; rw [cell_off (Or.inr (by omega))]; refine cell_same (v := v2) ?_; rw [cell_off (Or.inr (by omega))]; rw [cell_off (Or.inr (by omega))]; exact h2
  · rw [cell_off (Or.inr (by omega))]; refine cell_same (v := v3) ?_; rw [cell_off (Or.inr (by omega))]; rw [cell_off (Or.inr (by omega))]; rw [cell_off (Or.inr (by omega))]; exact h3
  · refine cell_same (v := v4) ?_; rw [cell_off (Or.inr (by omega))]; rw [cell_off (Or.inr (by omega))]; rw [cell_off (Or.inr (by omega))]; rw [cell_off (Or.inr (by omega))]; exact h4
  · intro j; simp only [World.frozen?_setCell]; exact hf j
  · intro c o hc; rw [cell_off (Or.inl hc)]; rw [cell_off (Or.inl hc)]; rw [cell_off (Or.inl hc)]; rw [cell_off (Or.inl hc)]; rw [cell_off (Or.inl hc)]
  · intro k hk; rw [Below.heap_setCell _ _ _ _ hk]; rw [Below.heap_setCell _ _ _ _ hk]; rw [Below.heap_setCell _ _ _ _ hk]; rw [Below.heap_setCell _ _ _ _ hk]; rw [Below.heap_setCell _ _ _ _ hk]
  · simp only [size_set]
theorem set5_below {a X : World} {N b : Nat} {u0 u1 u2 u3 u4 : Value} (h : Below N a X) (hb : N ≤ b) : Below N a (set5 X b u0 u1 u2 u3 u4) := ((((((((((h).setCell (p := ⟨b, 0, none⟩) hb u0)).setCell (p := ⟨b, 1, none⟩) hb u1)).setCell (p := ⟨b, 2, none⟩) hb u2)).setCell (p := ⟨b, 3, none⟩) hb u3)).setCell (p := ⟨b, 4, none⟩) hb u4)
theorem new5_is (w : World) (u0 u1 u2 u3 u4 : Value) (T : TypeId) : (∀ i, i < 5 → ∃ v, (w.alloc (.cells #[u0, u1, u2, u3, u4] T)).cell? ⟨w.heap.size, i, none⟩ = some v) ∧ (∀ j, (w.alloc (.cells #[u0, u1, u2, u3, u4] T)).frozen? ⟨w.heap.size, j, none⟩ = false) := by
  constructor
  · intro i hi
    obtain rfl | rfl | rfl | rfl | rfl : i = 0 ∨ i = 1 ∨ i = 2 ∨ i = 3 ∨ i = 4 := by omega
    all_goals exact ⟨_, by simp [go_sem]; rfl⟩
  · intro j; simp [go_sem]
theorem has5_below {w w' : World} {b N : Nat} (h : (∀ i, i < 5 → ∃ v, w.cell? ⟨b, i, none⟩ = some v) ∧ (∀ j, w.frozen? ⟨b, j, none⟩ = false)) (hB : Below N w w') (hb : b < N) : (∀ i, i < 5 → ∃ v, w'.cell? ⟨b, i, none⟩ = some v) ∧ (∀ j, w'.frozen? ⟨b, j, none⟩ = false) :=
  ⟨fun i hi => by obtain ⟨v, hv⟩ := h.1 i hi; exact ⟨v, (hB.cell (p := ⟨b, i, none⟩) hb).trans hv⟩, fun j => (hB.frozen (p := ⟨b, j, none⟩) hb).trans (h.2 j)⟩
end Go.Proofs.Ytfaodlcfjhnhbaa

/- Stores of four and of five numbers into a block, and what a new block holds. -/
namespace Go.Proofs.Ytfaodlcfjhnhbaa
open Go.ChangeShapes Go.WideShapes Go.ChangeAt Go.RowKit
set_option linter.unusedVariables false
set_option linter.unusedSimpArgs false
def set2 (X : World) (b : Nat) (u0 u1 : Value) : World := ((X).setCell ⟨b, 0, none⟩ u0).setCell ⟨b, 1, none⟩ u1
theorem set2_is {X : World} {b : Nat} (u0 u1 : Value) (h : ∀ i, i < 2 → ∃ v, X.cell? ⟨b, i, none⟩ = some v) (hf : ∀ j, X.frozen? ⟨b, j, none⟩ = false) :
    (set2 X b u0 u1).cell? ⟨b, 0, none⟩ = some u0 ∧ (set2 X b u0 u1).cell? ⟨b, 1, none⟩ = some u1 ∧ (∀ j, (set2 X b u0 u1).frozen? ⟨b, j, none⟩ = false) ∧ (∀ c o, c ≠ b → (set2 X b u0 u1).cell? ⟨c, o, none⟩ = X.cell? ⟨c, o, none⟩) ∧ (∀ k, k ≠ b → (set2 X b u0 u1).heap[k]? = X.heap[k]?) ∧ (set2 X b u0 u1).heap.size = X.heap.size := by
  obtain ⟨v0, h0⟩ := h 0 (by omega)
  obtain ⟨v1, h1⟩ := h 1 (by omega)
  unfold set2
  refine ⟨?_, ?_, ?_, ?_, ?_, ?_⟩
  · rw [cell_off (Or.inr (by omega))]; exact cell_same h0
  · refine cell_same (v := v1) ?_; rw [cell_off (Or.inr (by omega))]; exact h1
  · intro j; simp only [World.frozen?_setCell]; exact hf j
  · intro c o hc; rw [cell_off (Or.inl hc)]; rw [cell_off (Or.inl hc)]
  · intro k hk; rw [Below.heap_setCell _ _ _ _ hk]; rw [Below.heap_setCell _ _ _ _ hk]
  · simp only [size_set]
theorem set2_below {a X : World} {N b : Nat} {u0 u1 : Value} (h : Below N a X) (hb : N ≤ b) : Below N a (set2 X b u0 u1) := ((((h).setCell (p := ⟨b, 0, none⟩) hb u0)).setCell (p := ⟨b, 1, none⟩) hb u1)
theorem new2_is (w : World) (u0 u1 : Value) (T : TypeId) : (∀ i, i < 2 → ∃ v, (w.alloc (.cells #[u0, u1] T)).cell? ⟨w.heap.size, i, none⟩ = some v) ∧ (∀ j, (w.alloc (.cells #[u0, u1] T)).frozen? ⟨w.heap.size, j, none⟩ = false) := by
  constructor
  · intro i hi
    obtain rfl | rfl : i = 0 ∨ i = 1 := by omega
    all_goals exact ⟨_, by simp [go_sem]; rfl⟩
  · intro j; simp [go_sem]
theorem has2_below {w w' : World} {b N : Nat} (h : (∀ i, i < 2 → ∃ v, w.cell? ⟨b, i, none⟩ = some v) ∧ (∀ j, w.frozen? ⟨b, j, none⟩ = false)) (hB : Below N w w') (hb : b < N) : (∀ i, i < 2 → ∃ v, w'.cell? ⟨b, i, none⟩ = some v) ∧ (∀ j, w'.frozen? ⟨b, j, none⟩ = false) :=
  ⟨fun i hi => by obtain ⟨v, hv⟩ := h.1 i hi; exact ⟨v, (hB.cell (p := ⟨b, i, none⟩) hb).trans hv⟩, fun j => (hB.frozen (p := ⟨b, j, none⟩) hb).trans (h.2 j)⟩
end Go.Proofs.Ytfaodlcfjhnhbaa
