import Derived.Test.YtchfhhmmjioajaaZRLeaf
import Derived.Outline
/- What gas.DepthsFor returns. -/
namespace Go.Proofs.Ytchfhhmmjioajaa
open Go.ChangeShapes Go.WideShapes Go.ChangeAt Go.RowKit
set_option linter.unusedVariables false

/-- What is right where no error is found. -/
theorem firE3_z {x y z : Int} (h : firE [x, y, z] = 0) : x = 0 ∧ y = 0 ∧ z = 0 := by
  simp only [firE] at h
  split at h
  · split at h
    · split at h
      · exact ⟨‹_›, ‹_›, ‹_›⟩
      · exact absurd h ‹_›
    · exact absurd h ‹_›
  · exact absurd h ‹_›
theorem firE4_z {x y z u : Int} (h : firE [x, y, z, u] = 0) : x = 0 ∧ y = 0 ∧ z = 0 ∧ u = 0 := by
  simp only [firE] at h
  split at h
  · split at h
    · split at h
      · split at h
        · exact ⟨‹_›, ‹_›, ‹_›, ‹_›⟩
        · exact absurd h ‹_›
      · exact absurd h ‹_›
    · exact absurd h ‹_›
  · exact absurd h ‹_›
theorem gasE_z {o h : Int} (k : gasE o h = 0) : 0 ≤ o ∧ o ≤ 1000 ∧ 0 ≤ h ∧ h ≤ 1000 ∧ o + h ≤ 1000 := by
  unfold gasE at k
  split at k
  · obtain ⟨k1, k2⟩ := ‹_ ∧ _›
    have := inB_iff.1 k1
    have := inB_iff.1 k2
    split at k <;> omega
  · omega
end Go.Proofs.Ytchfhhmmjioajaa

/- What shotlinebase.Floor and shotlinebase.Ceil return for numbers that are not negative. -/
namespace Go.Proofs.Ytchfhhmmjioajaa
open Go.ChangeShapes Go.WideShapes Go.ChangeAt Go.RowKit
set_option linter.unusedVariables false

theorem ceil_z {n d : Int} (h0 : 0 ≤ n) (h2 : 0 < d) (hr : n % d = 0) : (n + d - 1) / d = n / d := by
  have h := Int.emod_add_mul_ediv n d
  rw [hr, Int.zero_add] at h
  rw [← h, show d * (n / d) + d - 1 = (d - 1) + d * (n / d) by omega, Int.add_mul_ediv_left _ _ (by omega), Int.ediv_eq_zero_of_lt (by omega) (by omega), Int.mul_ediv_cancel_left _ (by omega)]
  omega
theorem ceil_s {n d : Int} (h0 : 0 ≤ n) (h2 : 0 < d) (hr : 0 < n % d) : (n + d - 1) / d = n / d + 1 := by
  have h := Int.emod_add_mul_ediv n d
  have hl := Int.emod_lt_of_pos n h2
  have e : n + d - 1 = (n % d - 1) + d * (n / d + 1) := by rw [Int.mul_add]; omega
  rw [e, Int.add_mul_ediv_left _ _ (by omega), Int.ediv_eq_zero_of_lt (by omega) (by omega)]
  omega
theorem baseFloor_nn (n d : Int) (w : World) (h0 : 0 ≤ n) (h1 : n ≤ 1000000000000000000) (h2 : 0 < d) (h3 : d ≤ 1000000000000000000) :
    Calls Try.prog 105 #[.int .i64 n, .int .i64 d] w fun e w' => e = .returned (.int .i64 (n / d)) ∧ w = w' := by
  have hq := quo_in n d h0 (by omega) h2
  have hd : ¬ d = 0 := by omega
  have k1 : 1 ≤ d := by omega
  have hr0 : 0 ≤ n % d := Int.emod_nonneg _ (by omega)
  have hrl : n % d < d := Int.emod_lt_of_pos n h2
  have hm : n.tmod d = n % d := Int.tmod_eq_emod_of_nonneg h0
  go_enter Try.func105, Try.ntmps105
  go_wp2
  go_ret
  exact ⟨rfl, rfl⟩
theorem baseFloor_neg (n d : Int) (w : World) (h0 : 0 ≤ n) (h1 : n ≤ 1000000000000000000) (h2 : 0 < d) (h3 : d ≤ 1000000000000000000) :
    Calls Try.prog 105 #[.int .i64 (-n), .int .i64 d] w fun e w' => e = .returned (.int .i64 (-((n + d - 1) / d))) ∧ w = w' := by
  have a1 : 0 ≤ n / d := Int.ediv_nonneg h0 (by omega)
  have a2 : n / d ≤ n := Int.ediv_le_self _ h0
  have hd : ¬ d = 0 := by omega
  have k1 : 1 ≤ d := by omega
  have hr0 : 0 ≤ n % d := Int.emod_nonneg _ (by omega)
  have hrl : n % d < d := Int.emod_lt_of_pos n h2
  have hm : (-n).tmod d = -(n % d) := by rw [Int.neg_tmod, Int.tmod_eq_emod_of_nonneg h0]
  have hq : (-n).tdiv d = -(n / d) := by rw [Int.neg_tdiv, Int.tdiv_eq_ediv_of_nonneg h0]
  obtain ⟨x, hx⟩ : ∃ x, Hid (-n = x) := ⟨-n, rfl⟩
  rw [hx.out] at hm hq ⊢
  obtain ⟨q, HQ⟩ : ∃ q, Hid (n / d = q) := ⟨n / d, rfl⟩
  obtain ⟨r, HR⟩ : ∃ r, Hid (n % d = r) := ⟨n % d, rfl⟩
  rw [HQ.out] at a1 a2 hq
  rw [HR.out] at hr0 hrl hm
  have w1 : IntKind.i64.wrap (x.tdiv d) = -q := by rw [hq]; exact IntWalk.i64_in _ (by omega)
  have w2 : IntKind.i64.wrap (-q - 1) = -q - 1 := IntWalk.i64_in _ (by omega)
  by_cases hz : r = 0
  · have e : Hid (-((n + d - 1) / d) = -q) := by show _ = _; rw [ceil_z h0 h2 (by rw [HR.out]; exact hz), HQ.out]
    rw [e.out]
    have hm0 : x.tmod d = 0 := by omega
    clear hm hz hr0 hrl
    go_enter Try.func105, Try.ntmps105
    go_wp2
    go_ret
    exact ⟨rfl, rfl⟩
  · have e : Hid (-((n + d - 1) / d) = -q - 1) := by show _ = _; rw [ceil_s h0 h2 (by rw [HR.out]; omega), HQ.out]; omega
    rw [e.out]
    have hp : 0 < r := by omega
    go_enter Try.func105, Try.ntmps105
    go_wp2
    go_ret
    exact ⟨rfl, rfl⟩
theorem baseCeil_nn (n d : Int) (w : World) (h0 : 0 ≤ n) (h1 : n ≤ 1000000000000000000) (h2 : 0 < d) (h3 : d ≤ 1000000000000000000) :
    Calls Try.prog 106 #[.int .i64 n, .int .i64 d] w fun e w' => e = .returned (.int .i64 ((n + d - 1) / d)) ∧ w = w' := by
  have b1 : 0 ≤ (n + d - 1) / d := Int.ediv_nonneg (by omega) (by omega)
  have b2 : (n + d - 1) / d ≤ n + d - 1 := Int.ediv_le_self _ (by omega)
  have hF := Lib.hid fun w => baseFloor_neg n d w h0 h1 h2 h3
  obtain ⟨c, hc⟩ : ∃ c, Hid ((n + d - 1) / d = c) := ⟨_, rfl⟩
  rw [hc.out] at b1 b2 ⊢
  have hF2 := Lib.hid fun w => (by have := hF.out w; rw [hc.out] at this; exact this : Calls Try.prog 105 #[.int .i64 (-n), .int .i64 d] w fun e w' => e = .returned (.int .i64 (-c)) ∧ w = w')
  go_enter Try.func106, Try.ntmps106
  go_wp2_with ((go_at_call 105; ((with_reducible refine (hF2.out _).mono ?_)); rintro e w' ⟨rfl, rfl⟩))
  go_ret
  exact ⟨ret_int (by simp), rfl⟩
end Go.Proofs.Ytchfhhmmjioajaa

/- Stores of four and of five numbers into a block, and what a new block holds. -/
namespace Go.Proofs.Ytchfhhmmjioajaa
open Go.ChangeShapes Go.WideShapes Go.ChangeAt Go.RowKit
set_option linter.unusedVariables false
set_option linter.unusedSimpArgs false
theorem cell_same {w : World} {b i : Nat} {u v : Value} (h : w.cell? ⟨b, i, none⟩ = some v) : (w.setCell ⟨b, i, none⟩ u).cell? ⟨b, i, none⟩ = some u := World.cell?_setCell_same' _ _ _ (by rw [h]; rfl)
theorem cell_off {w : World} {b i c j : Nat} {u : Value} (h : c ≠ b ∨ j ≠ i) : (w.setCell ⟨b, i, none⟩ u).cell? ⟨c, j, none⟩ = w.cell? ⟨c, j, none⟩ := by
  have h1 : (b = c → i ≠ j) := by
    intro e e2
    rcases h with h | h
    · exact h e.symm
    · exact h e2.symm
  by_cases hb : b = c
  · subst hb
    have := h1 rfl
    simp [go_sem, this]
  · simp [go_sem, hb]
theorem size_set (w : World) (a : Addr) (u : Value) : (w.setCell a u).heap.size = w.heap.size := by simp [World.setCell]
def set4 (X : World) (b : Nat) (u0 u1 u2 u3 : Value) : World := ((((X).setCell ⟨b, 0, none⟩ u0).setCell ⟨b, 1, none⟩ u1).setCell ⟨b, 2, none⟩ u2).setCell ⟨b, 3, none⟩ u3
theorem set4_is {X : World} {b : Nat} (u0 u1 u2 u3 : Value) (h : ∀ i, i < 4 → ∃ v, X.cell? ⟨b, i, none⟩ = some v) (hf : ∀ j, X.frozen? ⟨b, j, none⟩ = false) :
    (set4 X b u0 u1 u2 u3).cell? ⟨b, 0, none⟩ = some u0 ∧ (set4 X b u0 u1 u2 u3).cell? ⟨b, 1, none⟩ = some u1 ∧ (set4 X b u0 u1 u2 u3).cell? ⟨b, 2, none⟩ = some u2 ∧ (set4 X b u0 u1 u2 u3).cell? ⟨b, 3, none⟩ = some u3 ∧ (∀ j, (set4 X b u0 u1 u2 u3).frozen? ⟨b, j, none⟩ = false) ∧ (∀ c o, c ≠ b → (set4 X b u0 u1 u2 u3).cell? ⟨c, o, none⟩ = X.cell? ⟨c, o, none⟩) ∧ (∀ k, k ≠ b → (set4 X b u0 u1 u2 u3).heap[k]? = X.heap[k]?) ∧ (set4 X b u0 u1 u2 u3).heap.size = X.heap.size := by
  obtain ⟨v0, h0⟩ := h 0 (by omega)
  obtain ⟨v1, h1⟩ := h 1 (by omega)
  obtain ⟨v2, h2⟩ := h 2 (by omega)
  obtain ⟨v3, h3⟩ := h 3 (by omega)
  unfold set4
  refine ⟨?_, ?_, ?_, ?_, ?_, ?_, ?_, ?_⟩
  · rw [cell_off (Or.inr (by omega))]; rw [cell_off (Or.inr (by omega))]; rw [cell_off (Or.inr (by omega))]; exact cell_same h0
  · rw [cell_off (Or.inr (by omega))]; rw [cell_off (Or.inr (by omega))]; refine cell_same (v := v1) ?_; rw [cell_off (Or.inr (by omega))]; exact h1
  · rw [cell_off (Or.inr (by omega))]; refine cell_same (v := v2) ?_; rw [cell_off (Or.inr (by omega))]; rw [cell_off (Or.inr (by omega))]; exact h2
  · refine cell_same (v := v3) ?_; rw [cell_off (Or.inr (by omega))]; rw [cell_off (Or.inr (by omega))]; rw [cell_off (Or.inr (by omega))]; exact h3
  · intro j; simp only [World.frozen?_setCell]; exact hf j
  · intro c o hc; rw [cell_off (Or.inl hc)]; rw [cell_off (Or.inl hc)]; rw [cell_off (Or.inl hc)]; rw [cell_off (Or.inl hc)]
  · intro k hk; rw [Below.heap_setCell _ _ _ _ hk]; rw [Below.heap_setCell _ _ _ _ hk]; rw [Below.heap_setCell _ _ _ _ hk]; rw [Below.heap_setCell _ _ _ _ hk]
  · simp only [size_set]
theorem set4_below {a X : World} {N b : Nat} {u0 u1 u2 u3 : Value} (h : Below N a X) (hb : N ≤ b) : Below N a (set4 X b u0 u1 u2 u3) := ((((((((h).setCell (p := ⟨b, 0, none⟩) hb u0)).setCell (p := ⟨b, 1, none⟩) hb u1)).setCell (p := ⟨b, 2, none⟩) hb u2)).setCell (p := ⟨b, 3, none⟩) hb u3)
theorem new4_is (w : World) (u0 u1 u2 u3 : Value) (T : TypeId) : (∀ i, i < 4 → ∃ v, (w.alloc (.cells #[u0, u1, u2, u3] T)).cell? ⟨w.heap.size, i, none⟩ = some v) ∧ (∀ j, (w.alloc (.cells #[u0, u1, u2, u3] T)).frozen? ⟨w.heap.size, j, none⟩ = false) := by
  constructor
  · intro i hi
    obtain rfl | rfl | rfl | rfl : i = 0 ∨ i = 1 ∨ i = 2 ∨ i = 3 := by omega
    all_goals exact ⟨_, by simp [go_sem]; rfl⟩
  · intro j; simp [go_sem]
theorem has4_below {w w' : World} {b N : Nat} (h : (∀ i, i < 4 → ∃ v, w.cell? ⟨b, i, none⟩ = some v) ∧ (∀ j, w.frozen? ⟨b, j, none⟩ = false)) (hB : Below N w w') (hb : b < N) : (∀ i, i < 4 → ∃ v, w'.cell? ⟨b, i, none⟩ = some v) ∧ (∀ j, w'.frozen? ⟨b, j, none⟩ = false) :=
  ⟨fun i hi => by obtain ⟨v, hv⟩ := h.1 i hi; exact ⟨v, (hB.cell (p := ⟨b, i, none⟩) hb).trans hv⟩, fun j => (hB.frozen (p := ⟨b, j, none⟩) hb).trans (h.2 j)⟩
def set5 (X : World) (b : Nat) (u0 u1 u2 u3 u4 : Value) : World := (((((X).setCell ⟨b, 0, none⟩ u0).setCell ⟨b, 1, none⟩ u1).setCell ⟨b, 2, none⟩ u2).setCell ⟨b, 3, none⟩ u3).setCell ⟨b, 4, none⟩ u4
theorem set5_is {X : World} {b : Nat} (u0 u1 u2 u3 u4 : Value) (h : ∀ i, i < 5 → ∃ v, X.cell? ⟨b, i, none⟩ = some v) (hf : ∀ j, X.frozen? ⟨b, j, none⟩ = false) :
    (set5 X b u0 u1 u2 u3 u4).cell? ⟨b, 0, none⟩ = some u0 ∧ (set5 X b u0 u1 u2 u3 u4).cell? ⟨b, 1, none⟩ = some u1 ∧ (set5 X b u0 u1 u2 u3 u4).cell? ⟨b, 2, none⟩ = some u2 ∧ (set5 X b u0 u1 u2 u3 u4).cell? ⟨b, 3, none⟩ = some u3 ∧ (set5 X b u0 u1 u2 u3 u4).cell? ⟨b, 4, none⟩ = some u4 ∧ (∀ j, (set5 X b u0 u1 u2 u3 u4).frozen? ⟨b, j, none⟩ = false) ∧ (∀ c o, c ≠ b → (set5 X b u0 u1 u2 u3 u4).cell? ⟨c, o, none⟩ = X.cell? ⟨c, o, none⟩) ∧ (∀ k, k ≠ b → (set5 X b u0 u1 u2 u3 u4).heap[k]? = X.heap[k]?) ∧ (set5 X b u0 u1 u2 u3 u4).heap.size = X.heap.size := by
  obtain ⟨v0, h0⟩ := h 0 (by omega)
  obtain ⟨v1, h1⟩ := h 1 (by omega)
  obtain ⟨v2, h2⟩ := h 2 (by omega)
  obtain ⟨v3, h3⟩ := h 3 (by omega)
  obtain ⟨v4, h4⟩ := h 4 (by omega)
  unfold set5
  refine ⟨?_, ?_, ?_, ?_, ?_, ?_, ?_, ?_, ?_⟩
  · rw [cell_off (Or.inr (by omega))]; rw [cell_off (Or.inr (by omega))]; rw [cell_off (Or.inr (by omega))]; rw [cell_off (Or.inr (by omega))]; exact cell_same h0
  · rw [cell_off (Or.inr (by omega))]; rw [cell_off (Or.inr (by omega))]; rw [cell_off (Or.inr (by omega))]; refine cell_same (v := v1) ?_; rw [cell_off (Or.inr (by omega))]; exact h1
  · rw [cell_off (Or.inr (by omega))]; rw [cell_off (Or.inr (by omega))]; refine cell_same (v := v2) ?_; rw [cell_off (Or.inr (by omega))]; rw [cell_off (Or.inr (by omega))]; exact h2
  · rw [cell_off (Or.inr (by omega))]; refine cell_same (v := v3) ?_; rw [cell_off (Or.inr (by omega))]; rw [cell_off (Or.inr (by omega))]; rw [cell_off (Or.inr (by omega))]; exact h3
  · refine cell_same (v := v4) ?_; rw [cell_off (Or.inr (by omega))]; rw [cell_off (Or.inr (by omega))]; rw [cell_off (Or.inr (by omega))]; rw [cell_off (Or.inr (by omega))]; exact h4
  · intro j; simp only [World.frozen?_setCell]; exact hf j
  · intro c o hc; rw [cell_off (Or.inl hc)]; rw [cell_off (Or.inl hc)]; rw [cell_off (Or.inl hc)]; rw [cell_off (Or.inl hc)]; rw [cell_off (Or.inl hc)]
  · intro k hk; rw [Below.heap_setCell _ _ _ _ hk]; rw [Below.heap_setCell _ _ _ _ hk]; rw [Below.heap_setCell _ _ _ _ hk]; rw [Below.heap_setCell _ _ _ _ hk]; rw [Below.heap_setCell _ _ _ _ hk]
  · simp only [size_set]
theorem set5_below {a X : World} {N b : Nat} {u0 u1 u2 u3 u4 : Value} (h : Below N a X) (hb : N ≤ b) : Below N a (set5 X b u0 u1 u2 u3 u4) := ((((((((((h).setCell (p := ⟨b, 0, none⟩) hb u0)).setCell (p := ⟨b, 1, none⟩) hb u1)).setCell (p := ⟨b, 2, none⟩) hb u2)).setCell (p := ⟨b, 3, none⟩) hb u3)).setCell (p := ⟨b, 4, none⟩) hb u4)
theorem new5_is (w : World) (u0 u1 u2 u3 u4 : Value) (T : TypeId) : (∀ i, i < 5 → ∃ v, (w.alloc (.cells #[u0, u1, u2, u3, u4] T)).cell? ⟨w.heap.size, i, none⟩ = some v) ∧ (∀ j, (w.alloc (.cells #[u0, u1, u2, u3, u4] T)).frozen? ⟨w.heap.size, j, none⟩ = false) := by
  constructor
  · intro i hi
    obtain rfl | rfl | rfl | rfl | rfl : i = 0 ∨ i = 1 ∨ i = 2 ∨ i = 3 ∨ i = 4 := by omega
    all_goals exact ⟨_, by simp [go_sem]; rfl⟩
  · intro j; simp [go_sem]
theorem has5_below {w w' : World} {b N : Nat} (h : (∀ i, i < 5 → ∃ v, w.cell? ⟨b, i, none⟩ = some v) ∧ (∀ j, w.frozen? ⟨b, j, none⟩ = false)) (hB : Below N w w') (hb : b < N) : (∀ i, i < 5 → ∃ v, w'.cell? ⟨b, i, none⟩ = some v) ∧ (∀ j, w'.frozen? ⟨b, j, none⟩ = false) :=
  ⟨fun i hi => by obtain ⟨v, hv⟩ := h.1 i hi; exact ⟨v, (hB.cell (p := ⟨b, i, none⟩) hb).trans hv⟩, fun j => (hB.frozen (p := ⟨b, j, none⟩) hb).trans (h.2 j)⟩
end Go.Proofs.Ytchfhhmmjioajaa

/- Stores of four and of five numbers into a block, and what a new block holds. -/
namespace Go.Proofs.Ytchfhhmmjioajaa
open Go.ChangeShapes Go.WideShapes Go.ChangeAt Go.RowKit
set_option linter.unusedVariables false
set_option linter.unusedSimpArgs false
def set2 (X : World) (b : Nat) (u0 u1 : Value) : World := ((X).setCell ⟨b, 0, none⟩ u0).setCell ⟨b, 1, none⟩ u1
theorem set2_is {X : World} {b : Nat} (u0 u1 : Value) (h : ∀ i, i < 2 → ∃ v, X.cell? ⟨b, i, none⟩ = some v) (hf : ∀ j, X.frozen? ⟨b, j, none⟩ = false) :
    (set2 X b u0 u1).cell? ⟨b, 0, none⟩ = some u0 ∧ (set2 X b u0 u1).cell? ⟨b, 1, none⟩ = some u1 ∧ (∀ j, (set2 X b u0 u1).frozen? ⟨b, j, none⟩ = false) ∧ (∀ c o, c ≠ b → (set2 X b u0 u1).cell? ⟨c, o, none⟩ = X.cell? ⟨c, o, none⟩) ∧ (∀ k, k ≠ b → (set2 X b u0 u1).heap[k]? = X.heap[k]?) ∧ (set2 X b u0 u1).heap.size = X.heap.size := by
  obtain ⟨v0, h0⟩ := h 0 (by omega)
  obtain ⟨v1, h1⟩ := h 1 (by omega)
  unfold set2
  refine ⟨?_, ?_, ?_, ?_, ?_, ?_⟩
  · rw [cell_off (Or.inr (by omega))]; exact cell_same h0
  · refine cell_same (v := v1) ?_; rw [cell_off (Or.inr (by omega))]; exact h1
  · intro j; simp only [World.frozen?_setCell]; exact hf j
  · intro c o hc; rw [cell_off (Or.inl hc)]; rw [cell_off (Or.inl hc)]
  · intro k hk; rw [Below.heap_setCell _ _ _ _ hk]; rw [Below.heap_setCell _ _ _ _ hk]
  · simp only [size_set]
theorem set2_below {a X : World} {N b : Nat} {u0 u1 : Value} (h : Below N a X) (hb : N ≤ b) : Below N a (set2 X b u0 u1) := ((((h).setCell (p := ⟨b, 0, none⟩) hb u0)).setCell (p := ⟨b, 1, none⟩) hb u1)
theorem new2_is (w : World) (u0 u1 : Value) (T : TypeId) : (∀ i, i < 2 → ∃ v, (w.alloc (.cells #[u0, u1] T)).cell? ⟨w.heap.size, i, none⟩ = some v) ∧ (∀ j, (w.alloc (.cells #[u0, u1] T)).frozen? ⟨w.heap.size, j, none⟩ = false) := by
  constructor
  · intro i hi
    obtain rfl | rfl : i = 0 ∨ i = 1 := by omega
    all_goals exact ⟨_, by simp [go_sem]; rfl⟩
  · intro j; simp [go_sem]
theorem has2_below {w w' : World} {b N : Nat} (h : (∀ i, i < 2 → ∃ v, w.cell? ⟨b, i, none⟩ = some v) ∧ (∀ j, w.frozen? ⟨b, j, none⟩ = false)) (hB : Below N w w') (hb : b < N) : (∀ i, i < 2 → ∃ v, w'.cell? ⟨b, i, none⟩ = some v) ∧ (∀ j, w'.frozen? ⟨b, j, none⟩ = false) :=
  ⟨fun i hi => by obtain ⟨v, hv⟩ := h.1 i hi; exact ⟨v, (hB.cell (p := ⟨b, i, none⟩) hb).trans hv⟩, fun j => (hB.frozen (p := ⟨b, j, none⟩) hb).trans (h.2 j)⟩
end Go.Proofs.Ytchfhhmmjioajaa
