/- Loads that hold just what is breathed: tissue.Saturated. -/
import Derived.Test.YtchfhhmmjioajaaMLimits
import Derived.Test.YtchfhhmmjioajaaMMarks
import Derived.Test.YtchfhhmmjioajaaMSmall
import Derived.Test.YtchfhhmmjioajaaTClone
import Derived.Deep.DrawnRows
import Derived.Deep.CutRange
import Derived.Deep.CutBlock
import Derived.Outline
namespace Go.Proofs.Ytchfhhmmjioajaa
open Go.ChangeShapes Go.WideShapes Go.ChangeAt Go.RowKit
set_option linter.unusedVariables false
set_option linter.unusedSimpArgs false
attribute [local go_sem ↓] Go.wp_at_zero Go.wp_at_succ
/-- A block of n loads of which k are filled. -/
def FillAt (w : World) (b n k : Nat) (x y : Int) : Prop := b < w.heap.size ∧ (∀ j, j < k → w.cell? ⟨b, j * 4, none⟩ = some (.int .i64 x) ∧ w.cell? ⟨b, j * 4 + 1, none⟩ = some (.int .i64 x) ∧ w.cell? ⟨b, j * 4 + 2, none⟩ = some (.int .i64 y) ∧ w.cell? ⟨b, j * 4 + 3, none⟩ = some (.int .i64 y)) ∧ (∀ j, k ≤ j → j < n → ∀ i, i < 4 → ∃ v, w.cell? ⟨b, j * 4 + i, none⟩ = some v) ∧ (∀ j, w.frozen? ⟨b, j, none⟩ = false)
theorem fill_step {w : World} {b n k : Nat} {x y : Int} (h : FillAt w b n k x y) (hk : k < n) : FillAt ((((w.setCell ⟨b, k * 4, none⟩ (.int .i64 x)).setCell ⟨b, k * 4 + 1, none⟩ (.int .i64 x)).setCell ⟨b, k * 4 + 2, none⟩ (.int .i64 y)).setCell ⟨b, k * 4 + 3, none⟩ (.int .i64 y)) b n (k + 1) x y := by
  obtain ⟨h1, h2, h3, h4⟩ := h
  refine ⟨by simpa [size_set] using h1, ?_, ?_, ?_⟩
  · intro j hj
    by_cases e : j = k
    · subst e
      obtain ⟨v0, g0⟩ := h3 j (Nat.le_refl _) hk 0 (by omega)
      obtain ⟨v1, g1⟩ := h3 j (Nat.le_refl _) hk 1 (by omega)
      obtain ⟨v2, g2⟩ := h3 j (Nat.le_refl _) hk 2 (by omega)
      obtain ⟨v3, g3⟩ := h3 j (Nat.le_refl _) hk 3 (by omega)
      refine ⟨?_, ?_, ?_, ?_⟩
      · rw [cell_off (Or.inr (by omega)), cell_off (Or.inr (by omega)), cell_off (Or.inr (by omega))]
        exact cell_same g0
      · rw [cell_off (Or.inr (by omega)), cell_off (Or.inr (by omega))]
        exact cell_same (v := v1) (by rw [cell_off (Or.inr (by omega))]; exact g1)
      · rw [cell_off (Or.inr (by omega))]
        exact cell_same (v := v2) (by rw [cell_off (Or.inr (by omega)), cell_off (Or.inr (by omega))]; exact g2)
      · exact cell_same (v := v3) (by rw [cell_off (Or.inr (by omega)), cell_off (Or.inr (by omega)), cell_off (Or.inr (by omega))]; exact g3)
    · have hj' : j < k := by omega
      obtain ⟨g0, g1, g2, g3⟩ := h2 j hj'
      have O : ∀ o, o < 4 → ((((w.setCell ⟨b, k * 4, none⟩ (.int .i64 x)).setCell ⟨b, k * 4 + 1, none⟩ (.int .i64 x)).setCell ⟨b, k * 4 + 2, none⟩ (.int .i64 y)).setCell ⟨b, k * 4 + 3, none⟩ (.int .i64 y)).cell? ⟨b, j * 4 + o, none⟩ = w.cell? ⟨b, j * 4 + o, none⟩ := fun o ho => by
        rw [cell_off (Or.inr (by omega)), cell_off (Or.inr (by omega)), cell_off (Or.inr (by omega)), cell_off (Or.inr (by omega))]
      exact ⟨(O 0 (by omega)).trans g0, (O 1 (by omega)).trans g1, (O 2 (by omega)).trans g2, (O 3 (by omega)).trans g3⟩
  · intro j hj hjn i hi
    obtain ⟨v, g⟩ := h3 j (by omega) hjn i hi
    exact ⟨v, by rw [cell_off (Or.inr (by omega)), cell_off (Or.inr (by omega)), cell_off (Or.inr (by omega)), cell_off (Or.inr (by omega))]; exact g⟩
  · intro j
    rw [World.frozen?_setCell, World.frozen?_setCell, World.frozen?_setCell, World.frozen?_setCell]
    exact h4 j
theorem fill_done {w : World} {b n : Nat} {x y : Int} (h : FillAt w b n n x y) : SlLd w (some ⟨b, 0, none⟩) (List.replicate n ⟨x, x, y, y⟩) := by
  refine Or.inr ⟨b, 0, rfl, h.1, fun k hk => ?_⟩
  have hk' : k < n := by simpa using hk
  obtain ⟨g0, g1, g2, g3⟩ := h.2.1 k hk'
  simp only [List.getElem_replicate, Nat.zero_add]
  exact ⟨g0, g1, g2, g3⟩
theorem fill_new {w : World} {n : Nat} {x y : Int} {T : TypeId} : FillAt (w.alloc (.cells (Array.replicate (n * 4) (.int .i64 0)) T)) w.heap.size n 0 x y := by
  refine ⟨by simp, fun j hj => by omega, fun j _ hj i hi => ⟨.int .i64 0, ?_⟩, fun j => by simp [go_sem]⟩
  have h : j * 4 + i < n * 4 := by omega
  show (w.alloc _).cell? ⟨w.heap.size, j * 4 + i, none⟩ = _
  first | (rw [World.cell?_alloc_new]; simp [h]; done) | (simp [go_sem, h]; done)
theorem mkLd {n : Nat} (h1 : 1 ≤ n) (h16 : n ≤ 16) (w : World) : (Instr.makeSlice 36 (.int .i64 n) (.int .i64 n)).run Try.prog w = .ok (.slice (some ⟨w.heap.size, 0, none⟩) n n) (w.alloc (.cells (Array.replicate (n * 4) (.int .i64 0)) 45)) := by
  rcases (show n = 1 ∨ n = 2 ∨ n = 3 ∨ n = 4 ∨ n = 5 ∨ n = 6 ∨ n = 7 ∨ n = 8 ∨ n = 9 ∨ n = 10 ∨ n = 11 ∨ n = 12 ∨ n = 13 ∨ n = 14 ∨ n = 15 ∨ n = 16 by omega) with rfl | rfl | rfl | rfl | rfl | rfl | rfl | rfl | rfl | rfl | rfl | rfl | rfl | rfl | rfl | rfl <;> kernel_rfl
theorem cF3s (x y z r : Int) (b : Nat) (w : World) (hr : Hid (firE [x, y, z] = r)) (h0 : w.cell? ⟨b, 0, none⟩ = some (.int .i64 x)) (h1 : w.cell? ⟨b, 1, none⟩ = some (.int .i64 y)) (h2 : w.cell? ⟨b, 2, none⟩ = some (.int .i64 z)) :
    Calls Try.prog 73 #[.slice (some ⟨b, 0, none⟩) 3 3] w fun e w' => e = .returned (.int .i64 r) ∧ w = w' := by
  rw [← hr.out]; exact cFirst3c x y z b w h0 h1 h2
theorem CheckTable_is (T : List Cm) (A : Option Addr) (cap : Nat) (r : Int) (w : World) (hl : T.length ≤ 1000000) (hr : Hid (tabE T = r)) (hT : SlCm w A T) :
    Calls Try.prog 79 #[.slice A T.length cap] w fun e w' => e = .returned (.int .i64 r) ∧ Below w.heap.size w w' := by
  rw [← hr.out]; exact CheckTable_any T A cap w hl hT
theorem CheckGas_is (o h r : Int) (w : World) (hr : Hid (gasE o h = r)) :
    Calls Try.prog 82 #[.agg #[.int .i64 o, .int .i64 h]] w fun e w' => e = .returned (.int .i64 r) ∧ Below w.heap.size w w' := by
  rw [← hr.out]
  exact (CheckGas_any o h w).mono fun e w' ⟨h1, h2⟩ => ⟨h1, by first | exact h2 | (rw [← h2]; (repeat (first | (with_reducible refine Below.drew ?_) | (with_reducible refine below_drewN ?_ _) | (with_reducible refine Below.alloc ?_ (by first | omega | (simp; done) | (simp; omega) | (simp at *; omega)) _) | (with_reducible refine Below.setCell ?_ (by first | omega | (simp; done) | (simp; omega) | (simp at *; omega)) _) | (with_reducible exact Below.refl _ _) | (with_reducible assumption) | (with_reducible refine Below.trans ?_ (Below.mono (by assumption) (by first | omega | (simp; done) | (simp; omega) | (simp at *; omega)))))))⟩
/-- The first error of a table, a gas and a pressure. -/
def satE (T : List Cm) (o h p : Int) : Int := firE [tabE T, gasE o h, rngE p 400 31100]
set_option maxRecDepth 100000 in
set_option maxHeartbeats 1000000 in
theorem Saturated_bad (T : List Cm) (A : Option Addr) (cap : Nat) (o h p E : Int) (w : World) (hl : T.length ≤ 1000000) (hE : Hid (satE T o h p = E)) (hz : (E != 0) = true) (HT : Hid (SlCm w A T)) :
    Calls Try.prog 26 #[.slice A T.length cap, .agg #[.int .i64 o, .int .i64 h], .int .i64 p] w fun e w' => e = .returned (.tuple #[.slice none 0 0, .int .i64 E]) ∧ Below w.heap.size w w' := by
  obtain ⟨t, ht⟩ : ∃ z, Hid (tabE T = z) := ⟨_, rfl⟩
  obtain ⟨g, hg⟩ : ∃ z, Hid (gasE o h = z) := ⟨_, rfl⟩
  have hF : Hid (firE [t, g, rngE p 400 31100] = E) := by show _ = _; rw [← ht.out, ← hg.out]; exact hE.out
  clear hE
  go_enter Try.func26, Try.ntmps26
  go_upto_region 1 with (fail)
  refine wp_region_held_drew (S := (fun w' => w'.cell? ⟨w.heap.size, 0, none⟩ = some (.int .i64 o) ∧ w'.cell? ⟨w.heap.size, 1, none⟩ = some (.int .i64 h))) (by kernel_rfl) (by simp [go_sem, World.cell?_alloc_past, *]) (fun hHeld => ?_)
  refine wpAnyH_take (i := 0) (oi := ⟨some 12, _, _, _, _, _⟩) (v := ?_) rfl (by kernel_rfl) (by kernel_rfl) (by kernel_rfl) (fun _ _ _ h => h) (Or.inl ⟨by kernel_rfl, ?_⟩) (by assumption) ?_
  rotate_left
  · (intro w hSw; (try dsimp only at hSw); go_simp; all_goals with_reducible rfl)
  try simp only [Act.put, List.setIfInBounds_toArray, List.set_cons_zero, List.set_cons_succ]
  refine wpAnyH_take (i := 2) (oi := ⟨some 14, _, _, _, _, _⟩) (v := ?_) rfl (by kernel_rfl) (by kernel_rfl) (by kernel_rfl) (fun _ _ _ h => h) (Or.inl ⟨by kernel_rfl, ?_⟩) (by assumption) ?_
  rotate_left
  · (intro w hSw; (try dsimp only at hSw); go_simp; all_goals with_reducible rfl)
  try simp only [Act.put, List.setIfInBounds_toArray, List.set_cons_zero, List.set_cons_succ]
  refine wpAnyH_take (i := 4) (oi := ⟨some 16, _, _, _, _, _⟩) (v := ?_) rfl (by kernel_rfl) (by kernel_rfl) (by kernel_rfl) (fun _ _ _ h => h) (Or.inl ⟨by kernel_rfl, ?_⟩) (by assumption) ?_
  rotate_left
  · (intro w hSw; (try dsimp only at hSw); go_simp; all_goals with_reducible rfl)
  try simp only [Act.put, List.setIfInBounds_toArray, List.set_cons_zero, List.set_cons_succ]
  refine wpAnyH_ready (rs := [1]) (by kernel_rfl) (by simp) ?_
  refine AllReadyH.cons rfl (fun K hK => ?_) AllReadyH.nil
  go_simp
  refine (CheckTable_is T A cap t _ hl ht (HT.out.below (by exact (by (repeat (first | (with_reducible refine Below.drew ?_) | (with_reducible refine below_drewN ?_ _) | (with_reducible refine Below.alloc ?_ (by first | omega | (simp; done) | (simp; omega) | (simp at *; omega)) _) | (with_reducible refine Below.setCell ?_ (by first | omega | (simp; done) | (simp; omega) | (simp at *; omega)) _) | (with_reducible exact Below.refl _ _) | (with_reducible assumption) | (with_reducible refine Below.trans ?_ (Below.mono (by assumption) (by first | omega | (simp; done) | (simp; omega) | (simp at *; omega)))))))))).mono ?_
  rintro e w1 ⟨rfl, hb1⟩
  have hs1 := hb1.size
  try simp at hs1
  have c0 : w1.cell? ⟨w.heap.size, 0, none⟩ = some (.int .i64 o) := by rw [(bcell hb1).1 _ _ (by first | (simp; done) | (simp; omega) | omega)]; simp [go_sem, World.cell?_alloc_past, *]
  have c1 : w1.cell? ⟨w.heap.size, 1, none⟩ = some (.int .i64 h) := by rw [(bcell hb1).1 _ _ (by first | (simp; done) | (simp; omega) | omega)]; simp [go_sem, World.cell?_alloc_past, *]
  have hB1 : Below w.heap.size w w1 := (by (repeat (first | (with_reducible refine Below.drew ?_) | (with_reducible refine below_drewN ?_ _) | (with_reducible refine Below.alloc ?_ (by first | omega | (simp; done) | (simp; omega) | (simp at *; omega)) _) | (with_reducible refine Below.setCell ?_ (by first | omega | (simp; done) | (simp; omega) | (simp at *; omega)) _) | (with_reducible exact Below.refl _ _) | (with_reducible assumption) | (with_reducible refine Below.trans ?_ (Below.mono (by assumption) (by first | omega | (simp; done) | (simp; omega) | (simp at *; omega)))))))
  have o1 : w.heap.size < w1.heap.size := by omega
  have o2 : w1.heap.size ≠ w.heap.size := by omega
  clear hb1
  go_wp2_with fail
  refine hK.out _ _ (by simp [go_sem, World.cell?_alloc_past, *]) (fun hHeld => ?_)
  clear hK K
  try simp only [Act.put, List.setIfInBounds_toArray, List.set_cons_zero, List.set_cons_succ]
  refine wpAnyH_ready (rs := [3]) (by kernel_rfl) (by simp) ?_
  refine AllReadyH.cons rfl (fun K hK => ?_) AllReadyH.nil
  go_simp
  refine (CheckGas_is o h g _ hg).mono ?_
  rintro e w2 ⟨rfl, hb2⟩
  have hs2 := hb2.size
  try simp at hs2
  have d0 : w2.cell? ⟨w.heap.size, 0, none⟩ = some (.int .i64 o) := by rw [(bcell hb2).1 _ _ (by first | (simp; done) | (simp; omega) | omega)]; simp [go_sem, World.cell?_alloc_past, *]
  have d1 : w2.cell? ⟨w.heap.size, 1, none⟩ = some (.int .i64 h) := by rw [(bcell hb2).1 _ _ (by first | (simp; done) | (simp; omega) | omega)]; simp [go_sem, World.cell?_alloc_past, *]
  have hB2 : Below w.heap.size w w2 := (by (repeat (first | (with_reducible refine Below.drew ?_) | (with_reducible refine below_drewN ?_ _) | (with_reducible refine Below.alloc ?_ (by first | omega | (simp; done) | (simp; omega) | (simp at *; omega)) _) | (with_reducible refine Below.setCell ?_ (by first | omega | (simp; done) | (simp; omega) | (simp at *; omega)) _) | (with_reducible exact Below.refl _ _) | (with_reducible assumption) | (with_reducible refine Below.trans ?_ (Below.mono (by assumption) (by first | omega | (simp; done) | (simp; omega) | (simp at *; omega)))))))
  have o3 : w.heap.size < w2.heap.size := by omega
  have o4 : w2.heap.size ≠ w.heap.size := by omega
  clear hb2 c0 c1 hB1 o1 o2
  go_wp2_with fail
  refine hK.out _ _ (by simp [go_sem, World.cell?_alloc_past, *]) (fun hHeld => ?_)
  clear hK K
  try simp only [Act.put, List.setIfInBounds_toArray, List.set_cons_zero, List.set_cons_succ]
  refine wpAnyH_ready (rs := [5]) (by kernel_rfl) (by simp) ?_
  refine AllReadyH.cons rfl (fun K hK => ?_) AllReadyH.nil
  go_simp
  refine (tcheckPressure_any _ _).mono ?_
  rintro e w3 ⟨rfl, rfl⟩
  go_wp2_with fail
  refine hK.out _ _ (by simp [go_sem, World.cell?_alloc_past, *]) (fun hHeld => ?_)
  clear hK K
  try simp only [Act.put, List.setIfInBounds_toArray, List.set_cons_zero, List.set_cons_succ]
  refine wpAnyH_ready (rs := [6]) (by kernel_rfl) (by simp) ?_
  refine AllReadyH.cons rfl (fun K hK => ?_) AllReadyH.nil
  go_simp
  go_wp2_with fail
  refine hK.out _ _ (by simp [go_sem, World.cell?_alloc_past, *]) (fun hHeld => ?_)
  clear hK K
  try simp only [Act.put, List.setIfInBounds_toArray, List.set_cons_zero, List.set_cons_succ]
  refine wpAnyH_ready (rs := [7]) (by kernel_rfl) (by simp) ?_
  refine AllReadyH.cons rfl (fun K hK => ?_) AllReadyH.nil
  go_simp
  refine (cF3s _ _ _ E _ _ hF (by simp [go_sem]) (by simp [go_sem]) (by simp [go_sem])).mono ?_
  rintro e w3 ⟨rfl, rfl⟩
  go_wp2_with fail
  refine hK.out _ _ (by simp [go_sem, World.cell?_alloc_past, *]) (fun hHeld => ?_)
  clear hK K
  try simp only [Act.put, List.setIfInBounds_toArray, List.set_cons_zero, List.set_cons_succ]
  refine wpAnyH_take (i := 8) (oi := ⟨some 8, _, _, _, _, _⟩) (v := ?_) rfl (by kernel_rfl) (by kernel_rfl) (by kernel_rfl) (fun _ _ _ h => h) (Or.inl ⟨by kernel_rfl, ?_⟩) (by assumption) ?_
  rotate_left
  · (intro w hSw; (try dsimp only at hSw); go_simp; all_goals with_reducible rfl)
  try simp only [Act.put, List.setIfInBounds_toArray, List.set_cons_zero, List.set_cons_succ]
  refine wpAnyH_done (by kernel_rfl) ?_ _
  go_wp2
  go_ret2
  exact ⟨rfl, (by (repeat (first | (with_reducible refine Below.drew ?_) | (with_reducible refine below_drewN ?_ _) | (with_reducible refine Below.alloc ?_ (by first | omega | (simp; done) | (simp; omega) | (simp at *; omega)) _) | (with_reducible refine Below.setCell ?_ (by first | omega | (simp; done) | (simp; omega) | (simp at *; omega)) _) | (with_reducible exact Below.refl _ _) | (with_reducible assumption) | (with_reducible refine Below.trans ?_ (Below.mono (by assumption) (by first | omega | (simp; done) | (simp; omega) | (simp at *; omega)))))))⟩
/-- The program made a list of n loads that hold x of nitrogen and y of helium. -/
def SatL (n : Nat) (x y : Int) (w : World) (e : Ending) (w' : World) : Prop := ∃ A cap, e = .returned (.tuple #[.slice A n cap, .int .i64 0]) ∧ (A = none → cap = 0) ∧ SlLd w' A (List.replicate n ⟨x, x, y, y⟩) ∧ Below w.heap.size w w'
set_option maxRecDepth 100000 in
set_option maxHeartbeats 2000000 in
theorem Saturated_good (T : List Cm) (A : Option Addr) (cap : Nat) (o h p x y : Int) (w : World) (hl1 : 1 ≤ T.length) (hl16 : T.length ≤ 16) (hE : Hid (satE T o h p = 0)) (hgz : Hid (gasE o h = 0)) (p0 : 400 ≤ p) (p1 : p ≤ 31100) (hx : Hid ((1000 - o - h) * (p - 63) = x)) (hy : Hid (h * (p - 63) = y)) (HT : Hid (SlCm w A T)) :
    Calls Try.prog 26 #[.slice A T.length cap, .agg #[.int .i64 o, .int .i64 h], .int .i64 p] w (SatL T.length x y w) := by
  have hl : T.length ≤ 1000000 := by omega
  obtain ⟨t, ht⟩ : ∃ z, Hid (tabE T = z) := ⟨_, rfl⟩
  obtain ⟨g, hg⟩ : ∃ z, Hid (gasE o h = z) := ⟨_, rfl⟩
  have hF : Hid (firE [t, g, rngE p 400 31100] = 0) := by show _ = _; rw [← ht.out, ← hg.out]; exact hE.out
  have HB := Lib.hid (fun w => (by have := breathedOf_any o h p p w hgz p0 p1 p0 p1; rw [hx.out, hy.out] at this; exact this : Calls Try.prog 84 #[.agg #[.int .i64 o, .int .i64 h], .agg #[.int .i64 p, .int .i64 p]] w fun e w' => e = .returned (.agg #[.int .i64 x, .int .i64 x, .int .i64 y, .int .i64 y]) ∧ Below w.heap.size w w'))
  have hmk := mkLd hl1 hl16
  have HMK := Lib.hid hmk
  have HT16 := Lib.hid hl16
  clear hE hx hy hmk
  go_enter Try.func26, Try.ntmps26
  go_upto_region 1 with (fail)
  refine wp_region_held_drew (S := (fun w' => w'.cell? ⟨w.heap.size, 0, none⟩ = some (.int .i64 o) ∧ w'.cell? ⟨w.heap.size, 1, none⟩ = some (.int .i64 h))) (by kernel_rfl) (by simp [go_sem, World.cell?_alloc_past, *]) (fun hHeld => ?_)
  refine wpAnyH_take (i := 0) (oi := ⟨some 12, _, _, _, _, _⟩) (v := ?_) rfl (by kernel_rfl) (by kernel_rfl) (by kernel_rfl) (fun _ _ _ h => h) (Or.inl ⟨by kernel_rfl, ?_⟩) (by assumption) ?_
  rotate_left
  · (intro w hSw; (try dsimp only at hSw); go_simp; all_goals with_reducible rfl)
  try simp only [Act.put, List.setIfInBounds_toArray, List.set_cons_zero, List.set_cons_succ]
  refine wpAnyH_take (i := 2) (oi := ⟨some 14, _, _, _, _, _⟩) (v := ?_) rfl (by kernel_rfl) (by kernel_rfl) (by kernel_rfl) (fun _ _ _ h => h) (Or.inl ⟨by kernel_rfl, ?_⟩) (by assumption) ?_
  rotate_left
  · (intro w hSw; (try dsimp only at hSw); go_simp; all_goals with_reducible rfl)
  try simp only [Act.put, List.setIfInBounds_toArray, List.set_cons_zero, List.set_cons_succ]
  refine wpAnyH_take (i := 4) (oi := ⟨some 16, _, _, _, _, _⟩) (v := ?_) rfl (by kernel_rfl) (by kernel_rfl) (by kernel_rfl) (fun _ _ _ h => h) (Or.inl ⟨by kernel_rfl, ?_⟩) (by assumption) ?_
  rotate_left
  · (intro w hSw; (try dsimp only at hSw); go_simp; all_goals with_reducible rfl)
  try simp only [Act.put, List.setIfInBounds_toArray, List.set_cons_zero, List.set_cons_succ]
  refine wpAnyH_ready (rs := [1]) (by kernel_rfl) (by simp) ?_
  refine AllReadyH.cons rfl (fun K hK => ?_) AllReadyH.nil
  go_simp
  refine (CheckTable_is T A cap t _ hl ht (HT.out.below (by exact (by (repeat (first | (with_reducible refine Below.drew ?_) | (with_reducible refine below_drewN ?_ _) | (with_reducible refine Below.alloc ?_ (by first | omega | (simp; done) | (simp; omega) | (simp at *; omega)) _) | (with_reducible refine Below.setCell ?_ (by first | omega | (simp; done) | (simp; omega) | (simp at *; omega)) _) | (with_reducible exact Below.refl _ _) | (with_reducible assumption) | (with_reducible refine Below.trans ?_ (Below.mono (by assumption) (by first | omega | (simp; done) | (simp; omega) | (simp at *; omega)))))))))).mono ?_
  rintro e w1 ⟨rfl, hb1⟩
  have hs1 := hb1.size
  try simp at hs1
  have c0 : w1.cell? ⟨w.heap.size, 0, none⟩ = some (.int .i64 o) := by rw [(bcell hb1).1 _ _ (by first | (simp; done) | (simp; omega) | omega)]; simp [go_sem, World.cell?_alloc_past, *]
  have c1 : w1.cell? ⟨w.heap.size, 1, none⟩ = some (.int .i64 h) := by rw [(bcell hb1).1 _ _ (by first | (simp; done) | (simp; omega) | omega)]; simp [go_sem, World.cell?_alloc_past, *]
  have hB1 : Below w.heap.size w w1 := (by (repeat (first | (with_reducible refine Below.drew ?_) | (with_reducible refine below_drewN ?_ _) | (with_reducible refine Below.alloc ?_ (by first | omega | (simp; done) | (simp; omega) | (simp at *; omega)) _) | (with_reducible refine Below.setCell ?_ (by first | omega | (simp; done) | (simp; omega) | (simp at *; omega)) _) | (with_reducible exact Below.refl _ _) | (with_reducible assumption) | (with_reducible refine Below.trans ?_ (Below.mono (by assumption) (by first | omega | (simp; done) | (simp; omega) | (simp at *; omega)))))))
  have o1 : w.heap.size < w1.heap.size := by omega
  have o2 : w1.heap.size ≠ w.heap.size := by omega
  clear hb1
  go_wp2_with fail
  refine hK.out _ _ (by simp [go_sem, World.cell?_alloc_past, *]) (fun hHeld => ?_)
  clear hK K
  try simp only [Act.put, List.setIfInBounds_toArray, List.set_cons_zero, List.set_cons_succ]
  refine wpAnyH_ready (rs := [3]) (by kernel_rfl) (by simp) ?_
  refine AllReadyH.cons rfl (fun K hK => ?_) AllReadyH.nil
  go_simp
  refine (CheckGas_is o h g _ hg).mono ?_
  rintro e w2 ⟨rfl, hb2⟩
  have hs2 := hb2.size
  try simp at hs2
  have d0 : w2.cell? ⟨w.heap.size, 0, none⟩ = some (.int .i64 o) := by rw [(bcell hb2).1 _ _ (by first | (simp; done) | (simp; omega) | omega)]; simp [go_sem, World.cell?_alloc_past, *]
  have d1 : w2.cell? ⟨w.heap.size, 1, none⟩ = some (.int .i64 h) := by rw [(bcell hb2).1 _ _ (by first | (simp; done) | (simp; omega) | omega)]; simp [go_sem, World.cell?_alloc_past, *]
  have hB2 : Below w.heap.size w w2 := (by (repeat (first | (with_reducible refine Below.drew ?_) | (with_reducible refine below_drewN ?_ _) | (with_reducible refine Below.alloc ?_ (by first | omega | (simp; done) | (simp; omega) | (simp at *; omega)) _) | (with_reducible refine Below.setCell ?_ (by first | omega | (simp; done) | (simp; omega) | (simp at *; omega)) _) | (with_reducible exact Below.refl _ _) | (with_reducible assumption) | (with_reducible refine Below.trans ?_ (Below.mono (by assumption) (by first | omega | (simp; done) | (simp; omega) | (simp at *; omega)))))))
  have o3 : w.heap.size < w2.heap.size := by omega
  have o4 : w2.heap.size ≠ w.heap.size := by omega
  clear hb2 c0 c1 hB1 o1 o2
  go_wp2_with fail
  refine hK.out _ _ (by simp [go_sem, World.cell?_alloc_past, *]) (fun hHeld => ?_)
  clear hK K
  try simp only [Act.put, List.setIfInBounds_toArray, List.set_cons_zero, List.set_cons_succ]
  refine wpAnyH_ready (rs := [5]) (by kernel_rfl) (by simp) ?_
  refine AllReadyH.cons rfl (fun K hK => ?_) AllReadyH.nil
  go_simp
  refine (tcheckPressure_any _ _).mono ?_
  rintro e w3 ⟨rfl, rfl⟩
  go_wp2_with fail
  refine hK.out _ _ (by simp [go_sem, World.cell?_alloc_past, *]) (fun hHeld => ?_)
  clear hK K
  try simp only [Act.put, List.setIfInBounds_toArray, List.set_cons_zero, List.set_cons_succ]
  refine wpAnyH_ready (rs := [6]) (by kernel_rfl) (by simp) ?_
  refine AllReadyH.cons rfl (fun K hK => ?_) AllReadyH.nil
  go_simp
  go_wp2_with fail
  refine hK.out _ _ (by simp [go_sem, World.cell?_alloc_past, *]) (fun hHeld => ?_)
  clear hK K
  try simp only [Act.put, List.setIfInBounds_toArray, List.set_cons_zero, List.set_cons_succ]
  refine wpAnyH_ready (rs := [7]) (by kernel_rfl) (by simp) ?_
  refine AllReadyH.cons rfl (fun K hK => ?_) AllReadyH.nil
  go_simp
  refine (cF3s _ _ _ 0 _ _ hF (by simp [go_sem]) (by simp [go_sem]) (by simp [go_sem])).mono ?_
  rintro e w3 ⟨rfl, rfl⟩
  go_wp2_with fail
  refine hK.out _ _ (by simp [go_sem, World.cell?_alloc_past, *]) (fun hHeld => ?_)
  clear hK K
  try simp only [Act.put, List.setIfInBounds_toArray, List.set_cons_zero, List.set_cons_succ]
  refine wpAnyH_take (i := 8) (oi := ⟨some 8, _, _, _, _, _⟩) (v := ?_) rfl (by kernel_rfl) (by kernel_rfl) (by kernel_rfl) (fun _ _ _ h => h) (Or.inl ⟨by kernel_rfl, ?_⟩) (by assumption) ?_
  rotate_left
  · (intro w hSw; (try dsimp only at hSw); go_simp; all_goals with_reducible rfl)
  try simp only [Act.put, List.setIfInBounds_toArray, List.set_cons_zero, List.set_cons_succ]
  refine wpAnyH_done (by kernel_rfl) ?_ _
  go_upto_region 4 with (fail)
  generalize hv9 : w2.alloc (.cells #[.int .i64 t, .int .i64 g, .int .i64 (rngE p 400 31100)] 25) = v
  have hbv : Below w2.heap.size w2 v := by rw [← hv9]; exact (Below.refl _ _).alloc (Nat.le_refl _) _
  have e0 := (hbv.cell (p := ⟨w.heap.size, 0, none⟩) o3).trans d0
  have e1 := (hbv.cell (p := ⟨w.heap.size, 1, none⟩) o3).trans d1
  have lv : w.heap.size < v.heap.size := Nat.lt_of_lt_of_le o3 hbv.size
  have hBv : Below w.heap.size w v := hB2.trans (hbv.mono hB2.size)
  clear hv9 hbv d0 d1 o3 o4 hB2
  go_cut [9] from 12 (fun s9 wx => ∃ b, s9 = .pointer (some ⟨b, 0, none⟩) ∧ v.heap.size ≤ b ∧ b < wx.heap.size ∧ wx.cell? ⟨b, 0, none⟩ = some (.int .i64 x) ∧ wx.cell? ⟨b, 1, none⟩ = some (.int .i64 x) ∧ wx.cell? ⟨b, 2, none⟩ = some (.int .i64 y) ∧ wx.cell? ⟨b, 3, none⟩ = some (.int .i64 y) ∧ Below v.heap.size v wx)
  case first =>
    have HS : ∀ w', Below v.heap.size v w' → w'.cell? ⟨w.heap.size, 0, none⟩ = some (.int .i64 o) ∧ w'.cell? ⟨w.heap.size, 1, none⟩ = some (.int .i64 h) := fun w' hb => ⟨(hb.cell (p := ⟨w.heap.size, 0, none⟩) lv).trans e0, (hb.cell (p := ⟨w.heap.size, 1, none⟩) lv).trans e1⟩
    have HS' := Lib.hid HS
    clear HS e0 e1
    refine wp_region_held_drew (S := (fun w' => w'.cell? ⟨w.heap.size, 0, none⟩ = some (.int .i64 o) ∧ w'.cell? ⟨w.heap.size, 1, none⟩ = some (.int .i64 h))) (by kernel_rfl) (by exact HS'.out _ (Below.refl v.heap.size v).drew) (fun hHeld => ?_)
    refine wpAnyH_take (i := 0) (oi := ⟨some 23, _, _, _, _, _⟩) (v := ?_) rfl (by kernel_rfl) (by kernel_rfl) (by kernel_rfl) (fun _ _ _ h => h) (Or.inl ⟨by kernel_rfl, ?_⟩) (by assumption) ?_
    rotate_left
    · (intro w hSw; (try dsimp only at hSw); go_simp; all_goals with_reducible rfl)
    try simp only [Act.put, List.setIfInBounds_toArray, List.set_cons_zero, List.set_cons_succ]
    refine wpAnyH_take (i := 1) (oi := ⟨some 24, _, _, _, _, _⟩) (v := ?_) rfl (by kernel_rfl) (by kernel_rfl) (by kernel_rfl) (fun _ _ _ h => h) (Or.inl ⟨by kernel_rfl, ?_⟩) (by assumption) ?_
    rotate_left
    · (intro w hSw; (try dsimp only at hSw); go_simp; all_goals with_reducible rfl)
    try simp only [Act.put, List.setIfInBounds_toArray, List.set_cons_zero, List.set_cons_succ]
    have hB0 : Below v.heap.size v v.drew := (Below.refl v.heap.size v).drew
    generalize hdr : v.drew = u0 at *
    clear hdr
    refine wpAnyH_ready (rs := [2, 4]) (by kernel_rfl) (by simp) ?_
    refine AllReadyH.cons rfl (fun K hK => ?_) (AllReadyH.cons rfl (fun K hK => ?_) (AllReadyH.nil))
    · skip
      go_simp
      refine (exactly_any p _).mono ?_
      rintro e u1 ⟨rfl, hb1⟩
      have hB1 : Below v.heap.size v u1 := (hB0).trans (hb1.mono (hB0).size)
      go_wp2_with fail
      refine hK.out _ _ (HS'.out _ (hB1)) (fun hHeld => ?_)
      clear hK K
      try simp only [Act.put, List.setIfInBounds_toArray, List.set_cons_zero, List.set_cons_succ]
      refine wpAnyH_ready (rs := [3, 4]) (by kernel_rfl) (by simp) ?_
      refine AllReadyH.cons rfl (fun K hK => ?_) (AllReadyH.cons rfl (fun K hK => ?_) (AllReadyH.nil))
      · skip
        go_simp
        refine (HB.out _).mono ?_
        rintro e u2 ⟨rfl, hb2⟩
        have hB2 : Below v.heap.size v u2 := (hB1).trans (hb2.mono (hB1).size)
        go_wp2_with fail
        refine hK.out _ _ (HS'.out _ (hB2)) (fun hHeld => ?_)
        clear hK K
        try simp only [Act.put, List.setIfInBounds_toArray, List.set_cons_zero, List.set_cons_succ]
        refine wpAnyH_ready (rs := [4]) (by kernel_rfl) (by simp) ?_
        refine AllReadyH.cons rfl (fun K hK => ?_) (AllReadyH.nil)
        go_simp
        go_wp2_with fail
        refine hK.out _ _ (HS'.out _ ((hB2).alloc (hB2).size _)) (fun hHeld => ?_)
        clear hK K
        try simp only [Act.put, List.setIfInBounds_toArray, List.set_cons_zero, List.set_cons_succ]
        generalize hq3 : u2.alloc (.cells #[.int .i64 0, .int .i64 0, .int .i64 0, .int .i64 0] 127) = u3
        have hb3 : Below u2.heap.size u2 u3 := by rw [← hq3]; exact (Below.refl _ _).alloc (Nat.le_refl _) _
        have hB3 : Below v.heap.size v u3 := (hB2).trans (hb3.mono (hB2).size)
        have h4_3 : (∀ i, i < 4 → ∃ v, u3.cell? ⟨u2.heap.size, i, none⟩ = some v) ∧ (∀ j, u3.frozen? ⟨u2.heap.size, j, none⟩ = false) := by rw [← hq3]; exact new4_is u2 _ _ _ _ _
        have q4_3 : u2.heap.size < u3.heap.size := by rw [← hq3]; simp
        have g4 : v.heap.size ≤ u2.heap.size := (hB2).size
        clear hq3
        have hh4 := set4_is (X := u3) (b := u2.heap.size) (.int .i64 x) (.int .i64 x) (.int .i64 y) (.int .i64 y) h4_3.1 h4_3.2
        obtain ⟨⟨ev0, g0⟩, ⟨ev1, g1⟩, ⟨ev2, g2⟩, ⟨ev3, g3⟩⟩ := And.intro (h4_3.1 0 (by omega)) (And.intro (h4_3.1 1 (by omega)) (And.intro (h4_3.1 2 (by omega)) (h4_3.1 3 (by omega))))
        have gf := h4_3.2
        have hBs := set4_below (u0 := .int .i64 x) (u1 := .int .i64 x) (u2 := .int .i64 y) (u3 := .int .i64 y) hB3 g4
        unfold set4 at hh4 hBs
        have HH := Lib.hid hh4
        have HBs := Lib.hid hBs
        clear hh4 hBs
        refine wpAnyH_ready (rs := [5]) (by kernel_rfl) (by simp) ?_
        refine AllReadyH.cons rfl (fun K hK => ?_) (AllReadyH.nil)
        go_simp
        go_wp2_with fail
        refine hK.out _ _ (HS'.out _ (HBs.out)) (fun hHeld => ?_)
        clear hK K
        try simp only [Act.put, List.setIfInBounds_toArray, List.set_cons_zero, List.set_cons_succ]
        refine wpAnyH_done (by kernel_rfl) ?_ _
        go_wp2_with fail
        go_meet
        exact ⟨u2.heap.size, rfl, g4, by have := q4_3; simpa [size_set] using this, HH.out.1, HH.out.2.1, HH.out.2.2.1, HH.out.2.2.2.1, HBs.out⟩
      · skip
        go_simp
        go_wp2_with fail
        refine hK.out _ _ (HS'.out _ ((hB1).alloc (hB1).size _)) (fun hHeld => ?_)
        clear hK K
        try simp only [Act.put, List.setIfInBounds_toArray, List.set_cons_zero, List.set_cons_succ]
        generalize hq2 : u1.alloc (.cells #[.int .i64 0, .int .i64 0, .int .i64 0, .int .i64 0] 127) = u2
        have hb2 : Below u1.heap.size u1 u2 := by rw [← hq2]; exact (Below.refl _ _).alloc (Nat.le_refl _) _
        have hB2 : Below v.heap.size v u2 := (hB1).trans (hb2.mono (hB1).size)
        have h4_2 : (∀ i, i < 4 → ∃ v, u2.cell? ⟨u1.heap.size, i, none⟩ = some v) ∧ (∀ j, u2.frozen? ⟨u1.heap.size, j, none⟩ = false) := by rw [← hq2]; exact new4_is u1 _ _ _ _ _
        have q4_2 : u1.heap.size < u2.heap.size := by rw [← hq2]; simp
        have g4 : v.heap.size ≤ u1.heap.size := (hB1).size
        clear hq2
        refine wpAnyH_ready (rs := [3]) (by kernel_rfl) (by simp) ?_
        refine AllReadyH.cons rfl (fun K hK => ?_) (AllReadyH.nil)
        go_simp
        refine (HB.out _).mono ?_
        rintro e u3 ⟨rfl, hb3⟩
        have hB3 : Below v.heap.size v u3 := (hB2).trans (hb3.mono (hB2).size)
        have h4_3 := has4_below (b := u1.heap.size) h4_2 hb3 q4_2
        have q4_3 : u1.heap.size < u3.heap.size := Nat.lt_of_lt_of_le q4_2 hb3.size
        go_wp2_with fail
        refine hK.out _ _ (HS'.out _ (hB3)) (fun hHeld => ?_)
        clear hK K
        try simp only [Act.put, List.setIfInBounds_toArray, List.set_cons_zero, List.set_cons_succ]
        have hh4 := set4_is (X := u3) (b := u1.heap.size) (.int .i64 x) (.int .i64 x) (.int .i64 y) (.int .i64 y) h4_3.1 h4_3.2
        obtain ⟨⟨ev0, g0⟩, ⟨ev1, g1⟩, ⟨ev2, g2⟩, ⟨ev3, g3⟩⟩ := And.intro (h4_3.1 0 (by omega)) (And.intro (h4_3.1 1 (by omega)) (And.intro (h4_3.1 2 (by omega)) (h4_3.1 3 (by omega))))
        have gf := h4_3.2
        have hBs := set4_below (u0 := .int .i64 x) (u1 := .int .i64 x) (u2 := .int .i64 y) (u3 := .int .i64 y) hB3 g4
        unfold set4 at hh4 hBs
        have HH := Lib.hid hh4
        have HBs := Lib.hid hBs
        clear hh4 hBs
        refine wpAnyH_ready (rs := [5]) (by kernel_rfl) (by simp) ?_
        refine AllReadyH.cons rfl (fun K hK => ?_) (AllReadyH.nil)
        go_simp
        go_wp2_with fail
        refine hK.out _ _ (HS'.out _ (HBs.out)) (fun hHeld => ?_)
        clear hK K
        try simp only [Act.put, List.setIfInBounds_toArray, List.set_cons_zero, List.set_cons_succ]
        refine wpAnyH_done (by kernel_rfl) ?_ _
        go_wp2_with fail
        go_meet
        exact ⟨u1.heap.size, rfl, g4, by have := q4_3; simpa [size_set] using this, HH.out.1, HH.out.2.1, HH.out.2.2.1, HH.out.2.2.2.1, HBs.out⟩
    · skip
      go_simp
      go_wp2_with fail
      refine hK.out _ _ (HS'.out _ ((hB0).alloc (hB0).size _)) (fun hHeld => ?_)
      clear hK K
      try simp only [Act.put, List.setIfInBounds_toArray, List.set_cons_zero, List.set_cons_succ]
      generalize hq1 : u0.alloc (.cells #[.int .i64 0, .int .i64 0, .int .i64 0, .int .i64 0] 127) = u1
      have hb1 : Below u0.heap.size u0 u1 := by rw [← hq1]; exact (Below.refl _ _).alloc (Nat.le_refl _) _
      have hB1 : Below v.heap.size v u1 := (hB0).trans (hb1.mono (hB0).size)
      have h4_1 : (∀ i, i < 4 → ∃ v, u1.cell? ⟨u0.heap.size, i, none⟩ = some v) ∧ (∀ j, u1.frozen? ⟨u0.heap.size, j, none⟩ = false) := by rw [← hq1]; exact new4_is u0 _ _ _ _ _
      have q4_1 : u0.heap.size < u1.heap.size := by rw [← hq1]; simp
      have g4 : v.heap.size ≤ u0.heap.size := (hB0).size
      clear hq1
      refine wpAnyH_ready (rs := [2]) (by kernel_rfl) (by simp) ?_
      refine AllReadyH.cons rfl (fun K hK => ?_) (AllReadyH.nil)
      go_simp
      refine (exactly_any p _).mono ?_
      rintro e u2 ⟨rfl, hb2⟩
      have hB2 : Below v.heap.size v u2 := (hB1).trans (hb2.mono (hB1).size)
      have h4_2 := has4_below (b := u0.heap.size) h4_1 hb2 q4_1
      have q4_2 : u0.heap.size < u2.heap.size := Nat.lt_of_lt_of_le q4_1 hb2.size
      go_wp2_with fail
      refine hK.out _ _ (HS'.out _ (hB2)) (fun hHeld => ?_)
      clear hK K
      try simp only [Act.put, List.setIfInBounds_toArray, List.set_cons_zero, List.set_cons_succ]
      refine wpAnyH_ready (rs := [3]) (by kernel_rfl) (by simp) ?_
      refine AllReadyH.cons rfl (fun K hK => ?_) (AllReadyH.nil)
      go_simp
      refine (HB.out _).mono ?_
      rintro e u3 ⟨rfl, hb3⟩
      have hB3 : Below v.heap.size v u3 := (hB2).trans (hb3.mono (hB2).size)
      have h4_3 := has4_below (b := u0.heap.size) h4_2 hb3 q4_2
      have q4_3 : u0.heap.size < u3.heap.size := Nat.lt_of_lt_of_le q4_2 hb3.size
      go_wp2_with fail
      refine hK.out _ _ (HS'.out _ (hB3)) (fun hHeld => ?_)
      clear hK K
      try simp only [Act.put, List.setIfInBounds_toArray, List.set_cons_zero, List.set_cons_succ]
      have hh4 := set4_is (X := u3) (b := u0.heap.size) (.int .i64 x) (.int .i64 x) (.int .i64 y) (.int .i64 y) h4_3.1 h4_3.2
      obtain ⟨⟨ev0, g0⟩, ⟨ev1, g1⟩, ⟨ev2, g2⟩, ⟨ev3, g3⟩⟩ := And.intro (h4_3.1 0 (by omega)) (And.intro (h4_3.1 1 (by omega)) (And.intro (h4_3.1 2 (by omega)) (h4_3.1 3 (by omega))))
      have gf := h4_3.2
      have hBs := set4_below (u0 := .int .i64 x) (u1 := .int .i64 x) (u2 := .int .i64 y) (u3 := .int .i64 y) hB3 g4
      unfold set4 at hh4 hBs
      have HH := Lib.hid hh4
      have HBs := Lib.hid hBs
      clear hh4 hBs
      refine wpAnyH_ready (rs := [5]) (by kernel_rfl) (by simp) ?_
      refine AllReadyH.cons rfl (fun K hK => ?_) (AllReadyH.nil)
      go_simp
      go_wp2_with fail
      refine hK.out _ _ (HS'.out _ (HBs.out)) (fun hHeld => ?_)
      clear hK K
      try simp only [Act.put, List.setIfInBounds_toArray, List.set_cons_zero, List.set_cons_succ]
      refine wpAnyH_done (by kernel_rfl) ?_ _
      go_wp2_with fail
      go_meet
      exact ⟨u0.heap.size, rfl, g4, by have := q4_3; simpa [size_set] using this, HH.out.1, HH.out.2.1, HH.out.2.2.1, HH.out.2.2.2.1, HBs.out⟩
  case rest =>
    obtain ⟨b9, rfl, g9, l9, t0, t1, t2, t3, hBw⟩ := hcut
    have hBc : Below w.heap.size w wc := hBv.trans (hBw.mono hBv.size)
    clear hBw hBv e0 e1 lv
    have hmk := HMK.out
    go_wp2_with fail
    clear hmk
    generalize hm9 : wc.alloc (.cells (Array.replicate (T.length * 4) (.int .i64 0)) 45) = w5
    have hb5 : Below wc.heap.size wc w5 := by rw [← hm9]; exact (Below.refl _ _).alloc (Nat.le_refl _) _
    have HFL : FillAt w5 wc.heap.size T.length 0 x y := by rw [← hm9]; exact fill_new
    replace t0 := (hb5.cell (p := ⟨b9, 0, none⟩) l9).trans t0
    replace t1 := (hb5.cell (p := ⟨b9, 1, none⟩) l9).trans t1
    replace t2 := (hb5.cell (p := ⟨b9, 2, none⟩) l9).trans t2
    replace t3 := (hb5.cell (p := ⟨b9, 3, none⟩) l9).trans t3
    have hB5 : Below w.heap.size w w5 := hBc.trans (hb5.mono hBc.size)
    have hbn : w.heap.size ≤ wc.heap.size := hBc.size
    generalize hbb : wc.heap.size = bb at *
    have nb : b9 ≠ bb := by omega
    have nb2 : bb ≠ b9 := by omega
    clear hm9 hb5 hbb hBc HMK
    go_loopw [32] (fun i wr => ∃ k : Nat, k ≤ T.length ∧ i = .int .i64 k ∧ Hid (FillAt wr bb T.length k x y) ∧ wr.cell? ⟨b9, 0, none⟩ = some (.int .i64 x) ∧ wr.cell? ⟨b9, 1, none⟩ = some (.int .i64 x) ∧ wr.cell? ⟨b9, 2, none⟩ = some (.int .i64 y) ∧ wr.cell? ⟨b9, 3, none⟩ = some (.int .i64 y) ∧ Below w.heap.size w wr) (fun i _ => T.length - (intOf i).toNat)
    case atStart => exact ⟨0, by omega, rfl, HFL, t0, t1, t2, t3, hB5⟩
    case round =>
      clear t0 t1 t2 t3 hB5 HFL
      obtain ⟨k, hk, rfl, HF, t0, t1, t2, t3, hB⟩ := hrel
      by_cases hkl : k < T.length
      · have hkl2 : (k : Int) < T.length := by omega
        have HN := Lib.hid (fill_step HF.out hkl)
        obtain ⟨v0, g0⟩ := HF.out.2.2.1 k (Nat.le_refl _) hkl 0 (by omega)
        obtain ⟨v1, g1⟩ := HF.out.2.2.1 k (Nat.le_refl _) hkl 1 (by omega)
        obtain ⟨v2, g2⟩ := HF.out.2.2.1 k (Nat.le_refl _) hkl 2 (by omega)
        obtain ⟨v3, g3⟩ := HF.out.2.2.1 k (Nat.le_refl _) hkl 3 (by omega)
        rw [Nat.add_zero] at g0
        have gf := HF.out.2.2.2
        have s0 := (cell_off (w := wr) (b := bb) (i := k * 4) (c := b9) (j := 0) (u := .int .i64 x) (Or.inl nb))
        have HB4 := Lib.hid ((((hB.setCell (p := ⟨bb, k * 4, none⟩) hbn (.int .i64 x)).setCell (p := ⟨bb, k * 4 + 1, none⟩) hbn (.int .i64 x)).setCell (p := ⟨bb, k * 4 + 2, none⟩) hbn (.int .i64 y)).setCell (p := ⟨bb, k * 4 + 3, none⟩) hbn (.int .i64 y))
        have HO : Hid (∀ o, ((((wr.setCell ⟨bb, k * 4, none⟩ (.int .i64 x)).setCell ⟨bb, k * 4 + 1, none⟩ (.int .i64 x)).setCell ⟨bb, k * 4 + 2, none⟩ (.int .i64 y)).setCell ⟨bb, k * 4 + 3, none⟩ (.int .i64 y)).cell? ⟨b9, o, none⟩ = wr.cell? ⟨b9, o, none⟩) := fun o => by rw [cell_off (Or.inl nb), cell_off (Or.inl nb), cell_off (Or.inl nb), cell_off (Or.inl nb)]
        clear s0
        go_wp2
        go_roundw
        case rel => exact ⟨k + 1, by omega, by go_num, HN, (HO.out 0).trans t0, (HO.out 1).trans t1, (HO.out 2).trans t2, (HO.out 3).trans t3, HB4.out⟩
        case measure => (simp [intOf]) <;> omega
      · have hkl2 : ¬ (k : Int) < T.length := by omega
        have hkk : k = T.length := by omega
        have HD := HF.out
        rw [hkk] at HD
        have HDD := Lib.hid (fill_done HD)
        clear hkk HD
        go_wp2
        go_ret2
        exact ⟨some ⟨bb, 0, none⟩, T.length, rfl, (fun h => by cases h), HDD.out, hB⟩
end Go.Proofs.Ytchfhhmmjioajaa
