import Derived.Test.YtojaompfffpofaaGreatZCSRoot
import Derived.Deep.MidRow
import Derived.Deep.DrawnRows
import Derived.Deep.CutRange
import Derived.Deep.CutBlock
import Derived.Outline
namespace Go.Proofs.YtojaompfffpofaaGreat
open Go.ChangeShapes Go.WideShapes Go.ChangeAt Go.RowKit
set_option linter.unusedVariables false
set_option linter.unusedSimpArgs false
attribute [local go_sem ↓] Go.wp_at_zero Go.wp_at_succ
def ptV (p : Pt) : List Value := [.int .i64 p.a, .int .i64 p.b, .int .i64 p.c, .int .i64 p.d]
def hvV : List Value := hvL.flatMap ptV
theorem rootDown_is (n : Int) (m r : Nat) (w : World) (hn : n = (m : Int)) (hm : m ≤ 10000000000000000) (hr : Hid (rtD m = r)) :
    Calls Tryz.prog 138 #[.int .i64 n] w fun e w' => e = .returned (.int .i64 r) ∧ w.alloc (.cells #[.int .i64 n] 3) = w' := by
  subst hn; rw [← hr.out]; exact rootDown_any m w hm
theorem rootUp_is (n : Int) (m r : Nat) (w : World) (hn : n = (m : Int)) (hm : m ≤ 10000000000000000) (hr : Hid (rtU m = r)) :
    Calls Tryz.prog 140 #[.int .i64 n] w fun e w' => e = .returned (.int .i64 r) ∧ w.alloc (.cells #[.int .i64 n] 3) = w' := by
  subst hn; rw [← hr.out]; exact rootUp_any m w hm
theorem rtU_one {n r : Nat} (h1 : (r - 1) * (r - 1) < n) (h2 : n ≤ r * r) : rtU n = r := by
  have h3 := isq_le n
  have h4 := isq_lt n
  unfold rtU
  by_cases h : r * r = n
  · have e : isq n = r := isq_one (by omega) (by have : (r + 1) * (r + 1) = r * r + 2 * r + 1 := by grind
                                                 omega)
    rw [e, if_neg (by omega)]
  · have hr : 1 ≤ r := by
      rcases Nat.eq_zero_or_pos r with q | q
      · subst q; omega
      · exact q
    have e : isq n = r - 1 := isq_one (by omega) (by rw [show r - 1 + 1 = r by omega]; omega)
    rw [e, if_pos h1]; omega
theorem hv_step {k : Nat} (hk : k < 10) : ∃ a b : Nat, (hv k).a = a ∧ (hv k).b = b ∧ a ≤ 100000000 ∧ b ≤ 100000000 ∧ (hv (k + 1)).a = rtD ((100000000 + a) * 50000000) ∧ (hv (k + 1)).b = rtU ((100000000 + b) * 50000000) ∧ (hv (k + 1)).c = rtD ((100000000 - b) * 50000000) ∧ (hv (k + 1)).d = rtU ((100000000 - a) * 50000000) := by
  have key : ∀ a b c d e f : Nat, (hv k).a = (a : Int) → (hv k).b = (b : Int) → (hv (k + 1)).a = (c : Int) → (hv (k + 1)).b = (d : Int) → (hv (k + 1)).c = (e : Int) → (hv (k + 1)).d = (f : Int) → a ≤ 100000000 → b ≤ 100000000 →
      c * c ≤ (100000000 + a) * 50000000 → (100000000 + a) * 50000000 < (c + 1) * (c + 1) → (d - 1) * (d - 1) < (100000000 + b) * 50000000 → (100000000 + b) * 50000000 ≤ d * d →
      e * e ≤ (100000000 - b) * 50000000 → (100000000 - b) * 50000000 < (e + 1) * (e + 1) → (f - 1) * (f - 1) < (100000000 - a) * 50000000 → (100000000 - a) * 50000000 ≤ f * f →
      ∃ a b : Nat, (hv k).a = a ∧ (hv k).b = b ∧ a ≤ 100000000 ∧ b ≤ 100000000 ∧ (hv (k + 1)).a = rtD ((100000000 + a) * 50000000) ∧ (hv (k + 1)).b = rtU ((100000000 + b) * 50000000) ∧ (hv (k + 1)).c = rtD ((100000000 - b) * 50000000) ∧ (hv (k + 1)).d = rtU ((100000000 - a) * 50000000) := by
    intro a b c d e f g1 g2 g3 g4 g5 g6 l1 l2 i1 i2 i3 i4 i5 i6 i7 i8
    refine ⟨a, b, g1, g2, l1, l2, ?_, ?_, ?_, ?_⟩
    · rw [g3]; congr 1; exact (isq_one i1 i2).symm
    · rw [g4]; congr 1; exact (rtU_one i3 i4).symm
    · rw [g5]; congr 1; exact (isq_one i5 i6).symm
    · rw [g6]; congr 1; exact (rtU_one i7 i8).symm
  rcases (show k = 0 ∨ k = 1 ∨ k = 2 ∨ k = 3 ∨ k = 4 ∨ k = 5 ∨ k = 6 ∨ k = 7 ∨ k = 8 ∨ k = 9 by omega) with rfl | rfl | rfl | rfl | rfl | rfl | rfl | rfl | rfl | rfl
  · exact key 0 0 70710678 70710679 70710678 70710679 rfl rfl rfl rfl rfl rfl (by decide) (by decide) (by decide) (by decide) (by decide) (by decide) (by decide) (by decide) (by decide) (by decide)
  · exact key 70710678 70710679 92387953 92387954 38268342 38268344 rfl rfl rfl rfl rfl rfl (by decide) (by decide) (by decide) (by decide) (by decide) (by decide) (by decide) (by decide) (by decide) (by decide)
  · exact key 92387953 92387954 98078527 98078529 19509031 19509033 rfl rfl rfl rfl rfl rfl (by decide) (by decide) (by decide) (by decide) (by decide) (by decide) (by decide) (by decide) (by decide) (by decide)
  · exact key 98078527 98078529 99518472 99518473 9801711 9801717 rfl rfl rfl rfl rfl rfl (by decide) (by decide) (by decide) (by decide) (by decide) (by decide) (by decide) (by decide) (by decide) (by decide)
  · exact key 99518472 99518473 99879545 99879546 4906765 4906771 rfl rfl rfl rfl rfl rfl (by decide) (by decide) (by decide) (by decide) (by decide) (by decide) (by decide) (by decide) (by decide) (by decide)
  · exact key 99879545 99879546 99969881 99969882 2454118 2454130 rfl rfl rfl rfl rfl rfl (by decide) (by decide) (by decide) (by decide) (by decide) (by decide) (by decide) (by decide) (by decide) (by decide)
  · exact key 99969881 99969882 99992469 99992471 1227151 1227172 rfl rfl rfl rfl rfl rfl (by decide) (by decide) (by decide) (by decide) (by decide) (by decide) (by decide) (by decide) (by decide) (by decide)
  · exact key 99992469 99992471 99998117 99998118 613555 613637 rfl rfl rfl rfl rfl rfl (by decide) (by decide) (by decide) (by decide) (by decide) (by decide) (by decide) (by decide) (by decide) (by decide)
  · exact key 99998117 99998118 99999529 99999530 306757 306839 rfl rfl rfl rfl rfl rfl (by decide) (by decide) (by decide) (by decide) (by decide) (by decide) (by decide) (by decide) (by decide) (by decide)
  · exact key 99999529 99999530 99999882 99999883 153297 153461 rfl rfl rfl rfl rfl rfl (by decide) (by decide) (by decide) (by decide) (by decide) (by decide) (by decide) (by decide) (by decide) (by decide)
theorem hvV_at {w : World} {b : Nat} (h : ∀ j, j ≤ 10 → w.rangeAt b (j * 4) (ptV (hv j))) : w.rangeAt b 0 hvV := by
  have e : hvV = ptV (hv 0) ++ ptV (hv 1) ++ ptV (hv 2) ++ ptV (hv 3) ++ ptV (hv 4) ++ ptV (hv 5) ++ ptV (hv 6) ++ ptV (hv 7) ++ ptV (hv 8) ++ ptV (hv 9) ++ ptV (hv 10) := by
    unfold hvV hvL; simp [hv, hvL]
  have key : ∀ (n : Nat) (L : List Value), L.length = n * 4 → n ≤ 10 → w.rangeAt b 0 L → w.rangeAt b 0 (L ++ ptV (hv n)) := by
    intro n L hL hn hR j v hj
    by_cases hlt : j < L.length
    · rw [List.getElem?_append_left hlt] at hj; exact hR j v hj
    · rw [List.getElem?_append_right (by omega)] at hj
      have := h n hn (j - L.length) v hj
      rw [hL] at this
      rw [show 0 + j = n * 4 + (j - n * 4) by omega]; exact this
  rw [e]
  refine key 10 _ rfl (by omega) (key 9 _ rfl (by omega) (key 8 _ rfl (by omega) (key 7 _ rfl (by omega) (key 6 _ rfl (by omega) (key 5 _ rfl (by omega) (key 4 _ rfl (by omega) (key 3 _ rfl (by omega) (key 2 _ rfl (by omega) (key 1 _ rfl (by omega) ?_)))))))))
  have := h 0 (by omega)
  simpa using this
theorem pt_cells {w : World} {b o : Nat} {p : Pt} (h : w.rangeAt b o (ptV p)) : w.cell? ⟨b, o, none⟩ = some (.int .i64 p.a) ∧ w.cell? ⟨b, o + 1, none⟩ = some (.int .i64 p.b) ∧ w.cell? ⟨b, o + 2, none⟩ = some (.int .i64 p.c) ∧ w.cell? ⟨b, o + 3, none⟩ = some (.int .i64 p.d) :=
  ⟨h 0 _ rfl, h 1 _ rfl, h 2 _ rfl, h 3 _ rfl⟩
theorem range_keep {w w' : World} {b o : Nat} {cs : List Value} (h : w.rangeAt b o cs) (hc : ∀ j, j < cs.length → w'.cell? ⟨b, o + j, none⟩ = w.cell? ⟨b, o + j, none⟩) : w'.rangeAt b o cs := fun j v hj => by
  rw [hc j (List.getElem?_eq_some_iff.1 hj).1]; exact h j v hj
theorem there_keep {w w' : World} {b o n : Nat} (h : w.there b o n) (hc : ∀ j, j < n → ((w.cell? ⟨b, o + j, none⟩).isSome = true → (w'.cell? ⟨b, o + j, none⟩).isSome = true) ∧ w'.frozen? ⟨b, o + j, none⟩ = w.frozen? ⟨b, o + j, none⟩) : w'.there b o n := fun j hj => by
  obtain ⟨h1, h2⟩ := h j hj
  obtain ⟨h3, h4⟩ := hc j hj
  exact ⟨h3 h1, by rw [h4]; exact h2⟩
theorem there_new (w : World) (vs : List Value) (T : TypeId) : (w.alloc (.cells vs.toArray T)).there w.heap.size 0 vs.length := fun j hj => by
  constructor
  · simp [go_sem, hj]
  · simp [go_sem]
theorem there_below {w w' : World} {b o n N : Nat} (h : w.there b o n) (hB : Below N w w') (hb : b < N) : w'.there b o n := there_keep h fun j hj => ⟨fun q => by rw [hB.cell (p := ⟨b, o + j, none⟩) hb]; exact q, hB.frozen (p := ⟨b, o + j, none⟩) hb⟩
theorem range_below {w w' : World} {b o N : Nat} {cs : List Value} (h : w.rangeAt b o cs) (hB : Below N w w') (hb : b < N) : w'.rangeAt b o cs := range_keep h fun j hj => hB.cell (p := ⟨b, o + j, none⟩) hb
theorem there_some {w : World} {b o n : Nat} (h : w.there b o n) {j : Nat} (hj : j < n) : ∃ v, w.cell? ⟨b, o + j, none⟩ = some v := Option.isSome_iff_exists.1 (h j hj).1
theorem cell_same {w : World} {b i : Nat} {u v : Value} (h : w.cell? ⟨b, i, none⟩ = some v) : (w.setCell ⟨b, i, none⟩ u).cell? ⟨b, i, none⟩ = some u := World.cell?_setCell_same' _ _ _ (by rw [h]; rfl)
theorem cell_off {w : World} {b i c j : Nat} {u : Value} (h : c ≠ b ∨ j ≠ i) : (w.setCell ⟨b, i, none⟩ u).cell? ⟨c, j, none⟩ = w.cell? ⟨c, j, none⟩ := by
  have h1 : (b = c → i ≠ j) := by
    intro e e2
    rcases h with h | h
    · exact h e.symm
    · exact h e2.symm
  by_cases hb : b = c
  · subst hb
    have := h1 rfl
    simp [go_sem, this]
  · simp [go_sem, hb]
theorem size_set (w : World) (a : Addr) (u : Value) : (w.setCell a u).heap.size = w.heap.size := by simp [World.setCell]
/-- Four cells stored one behind the other. -/
def put4 (X : World) (b o : Nat) (u0 u1 u2 u3 : Value) : World := (((X.setCell ⟨b, o, none⟩ u0).setCell ⟨b, o + 1, none⟩ u1).setCell ⟨b, o + 2, none⟩ u2).setCell ⟨b, o + 3, none⟩ u3
theorem put4_is {X : World} {b o n : Nat} (u0 u1 u2 u3 : Value) (h : X.there b 0 n) (ho : o + 4 ≤ n) :
    (put4 X b o u0 u1 u2 u3).rangeAt b o [u0, u1, u2, u3] ∧ (put4 X b o u0 u1 u2 u3).there b 0 n ∧ (∀ c i, (c ≠ b ∨ i < o ∨ o + 4 ≤ i) → (put4 X b o u0 u1 u2 u3).cell? ⟨c, i, none⟩ = X.cell? ⟨c, i, none⟩) ∧ (∀ c i, (put4 X b o u0 u1 u2 u3).frozen? ⟨c, i, none⟩ = X.frozen? ⟨c, i, none⟩) ∧ (put4 X b o u0 u1 u2 u3).heap.size = X.heap.size := by
  obtain ⟨v0, h0⟩ := there_some h (show o < n by omega)
  obtain ⟨v1, h1⟩ := there_some h (show o + 1 < n by omega)
  obtain ⟨v2, h2⟩ := there_some h (show o + 2 < n by omega)
  obtain ⟨v3, h3⟩ := there_some h (show o + 3 < n by omega)
  rw [Nat.zero_add] at h0 h1 h2 h3
  have hf : ∀ c i, (put4 X b o u0 u1 u2 u3).frozen? ⟨c, i, none⟩ = X.frozen? ⟨c, i, none⟩ := fun c i => by unfold put4; simp only [World.frozen?_setCell]
  have g0 : (put4 X b o u0 u1 u2 u3).cell? ⟨b, o, none⟩ = some u0 := by unfold put4; rw [cell_off (Or.inr (by omega)), cell_off (Or.inr (by omega)), cell_off (Or.inr (by omega))]; exact cell_same h0
  have g1 : (put4 X b o u0 u1 u2 u3).cell? ⟨b, o + 1, none⟩ = some u1 := by unfold put4; rw [cell_off (Or.inr (by omega)), cell_off (Or.inr (by omega))]; exact cell_same (v := v1) (by rw [cell_off (Or.inr (by omega))]; exact h1)
  have g2 : (put4 X b o u0 u1 u2 u3).cell? ⟨b, o + 2, none⟩ = some u2 := by unfold put4; rw [cell_off (Or.inr (by omega))]; exact cell_same (v := v2) (by rw [cell_off (Or.inr (by omega)), cell_off (Or.inr (by omega))]; exact h2)
  have g3 : (put4 X b o u0 u1 u2 u3).cell? ⟨b, o + 3, none⟩ = some u3 := by unfold put4; exact cell_same (v := v3) (by rw [cell_off (Or.inr (by omega)), cell_off (Or.inr (by omega)), cell_off (Or.inr (by omega))]; exact h3)
  have go : ∀ c i, (c ≠ b ∨ i < o ∨ o + 4 ≤ i) → (put4 X b o u0 u1 u2 u3).cell? ⟨c, i, none⟩ = X.cell? ⟨c, i, none⟩ := fun c i hh => by
    unfold put4
    by_cases hc : c = b
    · rw [cell_off (Or.inr (by omega)), cell_off (Or.inr (by omega)), cell_off (Or.inr (by omega)), cell_off (Or.inr (by omega))]
    · rw [cell_off (Or.inl hc), cell_off (Or.inl hc), cell_off (Or.inl hc), cell_off (Or.inl hc)]
  refine ⟨?_, ?_, go, hf, by unfold put4; simp only [size_set]⟩
  · intro j v hj
    match j, hj with
    | 0, hj => cases hj; exact g0
    | 1, hj => cases hj; exact g1
    | 2, hj => cases hj; exact g2
    | 3, hj => cases hj; exact g3
    | j + 4, hj => simp at hj
  · refine there_keep h fun j hj => ⟨fun q => ?_, hf _ _⟩
    rw [Nat.zero_add] at q ⊢
    by_cases hr : j < o ∨ o + 4 ≤ j
    · rw [go _ _ (Or.inr hr)]; exact q
    · rcases (show j = o ∨ j = o + 1 ∨ j = o + 2 ∨ j = o + 3 by omega) with rfl | rfl | rfl | rfl
      · rw [g0]; rfl
      · rw [g1]; rfl
      · rw [g2]; rfl
      · rw [g3]; rfl
theorem results_mid {P : Program} {fn : Func} {tmps : Array Value} {W : World} {s : Tmp} {T : TypeId} {a : Addr} {v : Value} (h : fn.results = #[.cell s T]) (hs : tmps.getD s undef = .pointer (some a)) (hl : (loadVar T a).run P W = .ok v W) : (results fn tmps).run P W = .ok v W := by
  simp only [results, h, Array.mapM_eq_mapM_toList, List.mapM_cons, List.mapM_nil, Sem.run_bind, Sem.run_pure, Sem.run_map, hs, asAddr, Result.andThen_ok, hl]
  simp [Sem.run_bind, hl]
theorem ptV_one (p : Pt) : ∀ v ∈ ptV p, v.oneCell' = true := by intro v hv; simp [ptV] at hv; rcases hv with rfl | rfl | rfl | rfl <;> rfl
theorem hvV_one : ∀ v ∈ hvV, v.oneCell' = true := by
  intro v hv
  obtain ⟨p, _, h⟩ := List.mem_flatMap.1 hv
  exact ptV_one p v h
theorem below_setCells {N b : Nat} (hb : N ≤ b) {w : World} : ∀ (vs : List Value) (o : Nat) {X : World}, Below N w X → Below N w (X.setCells b o vs)
  | [], _, _, h => h
  | v :: r, o, X, h => by rw [World.setCells]; exact below_setCells hb r (o + 1) (h.setCell (p := ⟨b, o, none⟩) hb v)
theorem size_setCells (b : Nat) : ∀ (vs : List Value) (o : Nat) (X : World), (X.setCells b o vs).heap.size = X.heap.size
  | [], _, _ => rfl
  | v :: r, o, X => by rw [World.setCells, size_setCells b r (o + 1), size_set]
theorem wp_world {P : Program} {c : Code} {Q : Exit → Act → World → Prop} {a : Act} {w : World} (R : World → Prop) (h : R w) (k : ∀ X, R X → Code.wp P c Q a X) : Code.wp P c Q a w := k w h
theorem half_there (w : World) (Z : List Value) (T : TypeId) (hz : Z.length = 44) : ((w.alloc (.cells Z.toArray T)).alloc (.cells Z.toArray T)).there (w.heap.size + 1) 0 44 ∧ ((w.alloc (.cells Z.toArray T)).alloc (.cells Z.toArray T)).there w.heap.size 0 44 := by
  have h1 := there_new (w.alloc (.cells Z.toArray T)) Z T
  have h2 := there_new w Z T
  rw [hz] at h1 h2
  refine ⟨by simpa using h1, World.there_alloc h2 _⟩
def HalfS (w X : World) : Prop := (∀ j, j ≤ 0 → X.rangeAt (w.heap.size + 1) (j * 4) (ptV (hv j))) ∧ X.there (w.heap.size + 1) 0 44 ∧ X.there w.heap.size 0 44 ∧ w.heap.size + 2 ≤ X.heap.size ∧ Below w.heap.size w X
theorem half_start (w : World) (Z V : List Value) (T : TypeId) (hz : Z.length = 44) (hv4 : V.take 4 = ptV (hv 0)) (hV : V.length = 44) :
    HalfS w (((w.alloc (.cells Z.toArray T)).alloc (.cells Z.toArray T)).setCells (w.heap.size + 1) 0 V) := by
  obtain ⟨h1, h2⟩ := half_there w Z T hz
  refine ⟨?_, World.there_setCells h1 _ _ _, World.there_setCells h2 _ _ _, by rw [size_setCells]; simp, below_setCells (by omega) _ _ ((((Below.refl _ _).alloc (Nat.le_refl _) _)).alloc (by simp) _)⟩
  intro j hj
  obtain rfl : j = 0 := by omega
  have hs := World.rangeAt_setCells_same _ _ 0 V (by rw [hV]; exact h1)
  intro i v hi
  have hi4 : i < 4 := (List.getElem?_eq_some_iff.1 hi).1
  have := hs i v (by rw [← hi, ← hv4, List.getElem?_take_of_lt hi4])
  simpa using this
theorem half_round {wr W5 : World} {b k : Nat} {r0 r1 r2 r3 : Nat} (hB5 : Below wr.heap.size wr W5) (hlt : b < wr.heap.size) (hk : k < 10) (H : ∀ j, j ≤ k → wr.rangeAt b (j * 4) (ptV (hv j))) (T : wr.there b 0 44)
    (e0 : (hv (k + 1)).a = r0) (e1 : (hv (k + 1)).b = r1) (e2 : (hv (k + 1)).c = r2) (e3 : (hv (k + 1)).d = r3) :
    (∀ j, j ≤ k + 1 → (put4 W5 b ((k + 1) * 4) (.int .i64 r0) (.int .i64 r1) (.int .i64 r2) (.int .i64 r3)).rangeAt b (j * 4) (ptV (hv j))) ∧ (put4 W5 b ((k + 1) * 4) (.int .i64 r0) (.int .i64 r1) (.int .i64 r2) (.int .i64 r3)).there b 0 44 := by
  obtain ⟨h1, h2, h3, h4, h5⟩ := put4_is (.int .i64 r0) (.int .i64 r1) (.int .i64 r2) (.int .i64 r3) (there_below T hB5 hlt) (show (k + 1) * 4 + 4 ≤ 44 by omega)
  refine ⟨fun j hj => ?_, h2⟩
  by_cases e : j = k + 1
  · subst e
    have : ptV (hv (k + 1)) = [.int .i64 r0, .int .i64 r1, .int .i64 r2, .int .i64 r3] := by unfold ptV; rw [e0, e1, e2, e3]
    rw [this]; exact h1
  · refine range_keep (range_below (H j (by omega)) hB5 hlt) fun i hi => h3 _ _ (Or.inr (Or.inl ?_))
    have : i < 4 := hi
    omega
set_option maxRecDepth 100000 in
set_option maxHeartbeats 4000000 in
theorem halved_any (w : World) :
    Calls Tryz.prog 108 #[] w fun e w' => e = .returned (.agg hvV.toArray) ∧ Below w.heap.size w w' := by
  go_enter Tryz.func108, Tryz.ntmps108
  go_upto_region 2 with (with_reducible refine wpList_store_mid rfl 157 _ _ rfl (w.heap.size + 1) 0 _ rfl rfl ?_ (by kernel_rfl) (by kernel_rfl) ?_)
  · exact (half_there w _ _ rfl).1
  refine wp_world (HalfS w) (half_start w _ _ _ rfl rfl rfl) (fun X hX => ?_)
  obtain ⟨x1, x2, x3, x4, x5⟩ := hX
  have X1 := Lib.hid x1
  have X2 := Lib.hid x2
  have X3 := Lib.hid x3
  clear x1 x2 x3
  go_wp2_with fail
  go_loopw [7] (fun i wr => ∃ k : Nat, i = .int .i64 k ∧ k ≤ 10 ∧ Hid (∀ j, j ≤ k → wr.rangeAt (w.heap.size + 1) (j * 4) (ptV (hv j))) ∧ Hid (wr.there (w.heap.size + 1) 0 44) ∧ Hid (wr.there w.heap.size 0 44) ∧ w.heap.size + 2 ≤ wr.heap.size ∧ Below w.heap.size w wr) (fun i _ => 10 - (intOf i).toNat)
  case atStart => exact ⟨0, rfl, by omega, X1, X2, X3, x4, x5⟩
  case round =>
    obtain ⟨k, rfl, hk, H1, H2, H3, sz, hB⟩ := hrel
    clear X1 X2 X3 x4 x5
    have n1 : w.heap.size + 1 < wr.heap.size := by omega
    have n2 : w.heap.size < wr.heap.size := by omega
    have n3 : wr.heap.size ≠ w.heap.size + 1 := by omega
    have n4 : ¬ w.heap.size + 1 = wr.heap.size := by omega
    have m0 : w.heap.size ≠ wr.heap.size := by omega
    have p0 : wr.heap.size ≠ w.heap.size := by omega
    have t0 : w.heap.size + 1 < wr.heap.size + 1 := by omega
    have l0 : w.heap.size < wr.heap.size + 1 := by omega
    have m1 : w.heap.size ≠ wr.heap.size + 1 := by omega
    have p1 : wr.heap.size + 1 ≠ w.heap.size := by omega
    have t1 : w.heap.size + 1 < wr.heap.size + 1 + 1 := by omega
    have l1 : w.heap.size < wr.heap.size + 1 + 1 := by omega
    have m2 : w.heap.size ≠ wr.heap.size + 2 := by omega
    have p2 : wr.heap.size + 2 ≠ w.heap.size := by omega
    have t2 : w.heap.size + 1 < wr.heap.size + 1 + 1 + 1 := by omega
    have l2 : w.heap.size < wr.heap.size + 1 + 1 + 1 := by omega
    have m3 : w.heap.size ≠ wr.heap.size + 3 := by omega
    have p3 : wr.heap.size + 3 ≠ w.heap.size := by omega
    have t3 : w.heap.size + 1 < wr.heap.size + 1 + 1 + 1 + 1 := by omega
    have l3 : w.heap.size < wr.heap.size + 1 + 1 + 1 + 1 := by omega
    have m4 : w.heap.size ≠ wr.heap.size + 4 := by omega
    have p4 : wr.heap.size + 4 ≠ w.heap.size := by omega
    have t4 : w.heap.size + 1 < wr.heap.size + 1 + 1 + 1 + 1 + 1 := by omega
    have l4 : w.heap.size < wr.heap.size + 1 + 1 + 1 + 1 + 1 := by omega
    by_cases hk10 : k < 10
    · obtain ⟨a, b, ga, gb, la, lb, s0, s1, s2, s3⟩ := hv_step hk10
      obtain ⟨c0, c1, _, _⟩ := pt_cells (H1.out k (Nat.le_refl k))
      rw [ga] at c0
      rw [gb] at c1
      obtain ⟨r0, qr0⟩ : ∃ r, Hid (rtD ((100000000 + a) * 50000000) = r) := ⟨_, Lib.hid rfl⟩
      obtain ⟨r1, qr1⟩ : ∃ r, Hid (rtU ((100000000 + b) * 50000000) = r) := ⟨_, Lib.hid rfl⟩
      obtain ⟨r2, qr2⟩ : ∃ r, Hid (rtD ((100000000 - b) * 50000000) = r) := ⟨_, Lib.hid rfl⟩
      obtain ⟨r3, qr3⟩ : ∃ r, Hid (rtU ((100000000 - a) * 50000000) = r) := ⟨_, Lib.hid rfl⟩
      have S0 : Hid ((hv (k + 1)).a = (r0 : Int)) := Lib.hid (by rw [s0, qr0.out])
      have S1 : Hid ((hv (k + 1)).b = (r1 : Int)) := Lib.hid (by rw [s1, qr1.out])
      have S2 : Hid ((hv (k + 1)).c = (r2 : Int)) := Lib.hid (by rw [s2, qr2.out])
      have S3 : Hid ((hv (k + 1)).d = (r3 : Int)) := Lib.hid (by rw [s3, qr3.out])
      obtain ⟨v0, y0⟩ := there_some H2.out (show (k + 1) * 4 < 44 by omega)
      obtain ⟨v1, y1⟩ := there_some H2.out (show (k + 1) * 4 + 1 < 44 by omega)
      obtain ⟨v2, y2⟩ := there_some H2.out (show (k + 1) * 4 + 2 < 44 by omega)
      obtain ⟨v3, y3⟩ := there_some H2.out (show (k + 1) * 4 + 3 < 44 by omega)
      have f0 := (H2.out ((k + 1) * 4) (by omega)).2
      have f1 := (H2.out ((k + 1) * 4 + 1) (by omega)).2
      have f2 := (H2.out ((k + 1) * 4 + 2) (by omega)).2
      have f3 := (H2.out ((k + 1) * 4 + 3) (by omega)).2
      rw [Nat.zero_add] at y0 y1 y2 y3 f0 f1 f2 f3
      have e1 : IntKind.i64.wrap (100000000 + (a : Int)) = 100000000 + a := IntWalk.i64_in _ (by omega)
      have e2 : IntKind.i64.wrap (100000000 + (b : Int)) = 100000000 + b := IntWalk.i64_in _ (by omega)
      have e3 : IntKind.i64.wrap (100000000 - (a : Int)) = 100000000 - a := IntWalk.i64_in _ (by omega)
      have e4 : IntKind.i64.wrap (100000000 - (b : Int)) = 100000000 - b := IntWalk.i64_in _ (by omega)
      have e5 : IntKind.i64.wrap ((k : Int) + 1) = (k : Int) + 1 := IntWalk.i64_in _ (by omega)
      have e6 : (0 : Int) ≤ (k : Int) + 1 := by omega
      have e7 : ((k : Int) + 1).toNat = k + 1 := by omega
      have e8 : (k : Int) + 1 < 11 := by omega
      clear ga gb s0 s1 s2 s3
      go_upto_region 6 with (fail)
      refine wp_region_held_drew (S := (fun w' => w'.cell? ⟨wr.heap.size, 0, none⟩ = some (.int .i64 (a : Int)) ∧ w'.cell? ⟨wr.heap.size, 1, none⟩ = some (.int .i64 (b : Int)))) (by kernel_rfl) (by simp [go_sem, World.cell?_alloc_past, *]) (fun hHeld => ?_)
      refine tkH 0 ⟨some 14, _, _, _, _, _⟩ ?_ rfl ?_ (by assumption) ?_
      rotate_left
      · (intro w hSw; (try dsimp only at hSw); go_simp; all_goals with_reducible rfl)
      try simp only [Act.put, sA, sB, sC]
      refine tkH 1 ⟨some 15, _, _, _, _, _⟩ ?_ rfl ?_ (by assumption) ?_
      rotate_left
      · (intro w hSw; (try dsimp only at hSw); go_simp; all_goals with_reducible rfl)
      try simp only [Act.put, sA, sB, sC]
      refine tkH 2 ⟨some 16, _, _, _, _, _⟩ ?_ rfl ?_ (by assumption) ?_
      rotate_left
      · (intro w hSw; (try dsimp only at hSw); go_simp; all_goals with_reducible rfl)
      try simp only [Act.put, sA, sB, sC]
      refine tkH 3 ⟨some 17, _, _, _, _, _⟩ ?_ rfl ?_ (by assumption) ?_
      rotate_left
      · (intro w hSw; (try dsimp only at hSw); go_simp; all_goals with_reducible rfl)
      try simp only [Act.put, sA, sB, sC]
      refine tkH 4 ⟨some 18, _, _, _, _, _⟩ ?_ rfl ?_ (by assumption) ?_
      rotate_left
      · (intro w hSw; (try dsimp only at hSw); go_simp; all_goals with_reducible rfl)
      try simp only [Act.put, sA, sB, sC]
      refine tkH 7 ⟨some 21, _, _, _, _, _⟩ ?_ rfl ?_ (by assumption) ?_
      rotate_left
      · (intro w hSw; (try dsimp only at hSw); go_simp; all_goals with_reducible rfl)
      try simp only [Act.put, sA, sB, sC]
      refine tkH 8 ⟨some 22, _, _, _, _, _⟩ ?_ rfl ?_ (by assumption) ?_
      rotate_left
      · (intro w hSw; (try dsimp only at hSw); go_simp; all_goals with_reducible rfl)
      try simp only [Act.put, sA, sB, sC]
      refine tkH 9 ⟨some 23, _, _, _, _, _⟩ ?_ rfl ?_ (by assumption) ?_
      rotate_left
      · (intro w hSw; (try dsimp only at hSw); go_simp; all_goals with_reducible rfl)
      try simp only [Act.put, sA, sB, sC]
      refine tkH 13 ⟨some 27, _, _, _, _, _⟩ ?_ rfl ?_ (by assumption) ?_
      rotate_left
      · (intro w hSw; (try dsimp only at hSw); go_simp; all_goals with_reducible rfl)
      try simp only [Act.put, sA, sB, sC]
      refine tkH 14 ⟨some 28, _, _, _, _, _⟩ ?_ rfl ?_ (by assumption) ?_
      rotate_left
      · (intro w hSw; (try dsimp only at hSw); go_simp; all_goals with_reducible rfl)
      try simp only [Act.put, sA, sB, sC]
      refine tkH 15 ⟨some 29, _, _, _, _, _⟩ ?_ rfl ?_ (by assumption) ?_
      rotate_left
      · (intro w hSw; (try dsimp only at hSw); go_simp; all_goals with_reducible rfl)
      try simp only [Act.put, sA, sB, sC]
      refine tkH 18 ⟨some 32, _, _, _, _, _⟩ ?_ rfl ?_ (by assumption) ?_
      rotate_left
      · (intro w hSw; (try dsimp only at hSw); go_simp; all_goals with_reducible rfl)
      try simp only [Act.put, sA, sB, sC]
      refine tkH 19 ⟨some 33, _, _, _, _, _⟩ ?_ rfl ?_ (by assumption) ?_
      rotate_left
      · (intro w hSw; (try dsimp only at hSw); go_simp; all_goals with_reducible rfl)
      try simp only [Act.put, sA, sB, sC]
      refine tkH 20 ⟨some 34, _, _, _, _, _⟩ ?_ rfl ?_ (by assumption) ?_
      rotate_left
      · (intro w hSw; (try dsimp only at hSw); go_simp; all_goals with_reducible rfl)
      try simp only [Act.put, sA, sB, sC]
      refine wpAnyH_ready (rs := [5]) (by kernel_rfl) (by simp) ?_
      refine AllReadyH.cons rfl (fun K hK => ?_) AllReadyH.nil
      go_simp
      refine (half_any (100000000 + (a : Int)) _ (by omega) (by omega)).mono ?_
      rintro e w' ⟨rfl, rfl⟩
      go_wp2_with fail
      refine hK.out _ _ (by simp [go_sem, World.cell?_alloc_past, *]) (fun hHeld => ?_)
      clear hK K
      try simp only [Act.put, sA, sB, sC]
      refine wpAnyH_ready (rs := [6]) (by kernel_rfl) (by simp) ?_
      refine AllReadyH.cons rfl (fun K hK => ?_) AllReadyH.nil
      go_simp
      refine (rootDown_is ((100000000 + (a : Int)) * 50000000) ((100000000 + a) * 50000000) r0 _ (by omega) (by omega) qr0).mono ?_
      rintro e w' ⟨rfl, rfl⟩
      go_wp2_with fail
      refine hK.out _ _ (by simp [go_sem, World.cell?_alloc_past, *]) (fun hHeld => ?_)
      clear hK K
      try simp only [Act.put, sA, sB, sC]
      refine wpAnyH_ready (rs := [10]) (by kernel_rfl) (by simp) ?_
      refine AllReadyH.cons rfl (fun K hK => ?_) AllReadyH.nil
      go_simp
      refine (half_any (100000000 + (b : Int)) _ (by omega) (by omega)).mono ?_
      rintro e w' ⟨rfl, rfl⟩
      go_wp2_with fail
      refine hK.out _ _ (by simp [go_sem, World.cell?_alloc_past, *]) (fun hHeld => ?_)
      clear hK K
      try simp only [Act.put, sA, sB, sC]
      refine wpAnyH_ready (rs := [11]) (by kernel_rfl) (by simp) ?_
      refine AllReadyH.cons rfl (fun K hK => ?_) AllReadyH.nil
      go_simp
      refine (rootUp_is ((100000000 + (b : Int)) * 50000000) ((100000000 + b) * 50000000) r1 _ (by omega) (by omega) qr1).mono ?_
      rintro e w' ⟨rfl, rfl⟩
      go_wp2_with fail
      refine hK.out _ _ (by simp [go_sem, World.cell?_alloc_past, *]) (fun hHeld => ?_)
      clear hK K
      try simp only [Act.put, sA, sB, sC]
      refine tkH 12 ⟨some 26, _, _, _, _, _⟩ ?_ rfl ?_ (by assumption) ?_
      rotate_left
      · (intro w hSw; (try dsimp only at hSw); go_simp; all_goals with_reducible rfl)
      try simp only [Act.put, sA, sB, sC]
      refine wpAnyH_ready (rs := [16]) (by kernel_rfl) (by simp) ?_
      refine AllReadyH.cons rfl (fun K hK => ?_) AllReadyH.nil
      go_simp
      refine (half_any (100000000 - (b : Int)) _ (by omega) (by omega)).mono ?_
      rintro e w' ⟨rfl, rfl⟩
      go_wp2_with fail
      refine hK.out _ _ (by simp [go_sem, World.cell?_alloc_past, *]) (fun hHeld => ?_)
      clear hK K
      try simp only [Act.put, sA, sB, sC]
      refine wpAnyH_ready (rs := [17]) (by kernel_rfl) (by simp) ?_
      refine AllReadyH.cons rfl (fun K hK => ?_) AllReadyH.nil
      go_simp
      refine (rootDown_is ((100000000 - (b : Int)) * 50000000) ((100000000 - b) * 50000000) r2 _ (by omega) (by omega) qr2).mono ?_
      rintro e w' ⟨rfl, rfl⟩
      go_wp2_with fail
      refine hK.out _ _ (by simp [go_sem, World.cell?_alloc_past, *]) (fun hHeld => ?_)
      clear hK K
      try simp only [Act.put, sA, sB, sC]
      refine wpAnyH_ready (rs := [21]) (by kernel_rfl) (by simp) ?_
      refine AllReadyH.cons rfl (fun K hK => ?_) AllReadyH.nil
      go_simp
      refine (half_any (100000000 - (a : Int)) _ (by omega) (by omega)).mono ?_
      rintro e w' ⟨rfl, rfl⟩
      go_wp2_with fail
      refine hK.out _ _ (by simp [go_sem, World.cell?_alloc_past, *]) (fun hHeld => ?_)
      clear hK K
      try simp only [Act.put, sA, sB, sC]
      refine wpAnyH_ready (rs := [22]) (by kernel_rfl) (by simp) ?_
      refine AllReadyH.cons rfl (fun K hK => ?_) AllReadyH.nil
      go_simp
      refine (rootUp_is ((100000000 - (a : Int)) * 50000000) ((100000000 - a) * 50000000) r3 _ (by omega) (by omega) qr3).mono ?_
      rintro e w' ⟨rfl, rfl⟩
      go_wp2_with fail
      refine hK.out _ _ (by simp [go_sem, World.cell?_alloc_past, *]) (fun hHeld => ?_)
      clear hK K
      try simp only [Act.put, sA, sB, sC]
      refine tkH 23 ⟨some 37, _, _, _, _, _⟩ ?_ rfl ?_ (by assumption) ?_
      rotate_left
      · (intro w hSw; (try dsimp only at hSw); go_simp; all_goals with_reducible rfl)
      try simp only [Act.put, sA, sB, sC]
      refine tkH 24 ⟨some 38, _, _, _, _, _⟩ ?_ rfl ?_ (by assumption) ?_
      rotate_left
      · (intro w hSw; (try dsimp only at hSw); go_simp; all_goals with_reducible rfl)
      try simp only [Act.put, sA, sB, sC]
      refine tkH 25 ⟨some 39, _, _, _, _, _⟩ ?_ rfl ?_ (by assumption) ?_
      rotate_left
      · (intro w hSw; (try dsimp only at hSw); go_simp; all_goals with_reducible rfl)
      try simp only [Act.put, sA, sB, sC]
      refine wpAnyH_ready (rs := [26]) (by kernel_rfl) (by simp) ?_
      refine AllReadyH.cons rfl (fun K hK => ?_) AllReadyH.nil
      go_simp
      go_wp2_with fail
      refine hK.out _ _ (by simp [go_sem, World.cell?_alloc_past, *]) (fun hHeld => ?_)
      clear hK K
      try simp only [Act.put, sA, sB, sC]
      refine wpAnyH_done (by kernel_rfl) ?_ _
      go_wp2
      go_roundw
      case rel =>
        have hr := half_round (Below.refl _ wr) n1 hk10 H1.out H2.out S0.out S1.out S2.out S3.out
        unfold put4 at hr
        obtain ⟨q1, q2⟩ := hr
        exact ⟨k + 1, by go_num, by omega, Lib.hid fun j hj => range_below (N := wr.heap.size) (q1 j hj) (by (repeat (first | (with_reducible refine Below.drew ?_) | (with_reducible refine below_drewN ?_ _) | (with_reducible refine Below.alloc ?_ (by first | omega | (simp; done) | (simp; omega) | (simp at *; omega)) _) | (with_reducible refine Below.setCell ?_ (by first | omega | (simp; done) | (simp; omega) | (simp at *; omega)) _) | (with_reducible exact Below.refl _ _) | (with_reducible assumption) | (with_reducible refine Below.trans ?_ (Below.mono (by assumption) (by first | omega | (simp; done) | (simp; omega) | (simp at *; omega))))))) n1, Lib.hid (there_below (N := wr.heap.size) q2 (by (repeat (first | (with_reducible refine Below.drew ?_) | (with_reducible refine below_drewN ?_ _) | (with_reducible refine Below.alloc ?_ (by first | omega | (simp; done) | (simp; omega) | (simp at *; omega)) _) | (with_reducible refine Below.setCell ?_ (by first | omega | (simp; done) | (simp; omega) | (simp at *; omega)) _) | (with_reducible exact Below.refl _ _) | (with_reducible assumption) | (with_reducible refine Below.trans ?_ (Below.mono (by assumption) (by first | omega | (simp; done) | (simp; omega) | (simp at *; omega))))))) n1), Lib.hid (there_below (N := w.heap.size + 1) H3.out (by (repeat (first | (with_reducible refine Below.drew ?_) | (with_reducible refine below_drewN ?_ _) | (with_reducible refine Below.alloc ?_ (by first | omega | (simp; done) | (simp; omega) | (simp at *; omega)) _) | (with_reducible refine Below.setCell ?_ (by first | omega | (simp; done) | (simp; omega) | (simp at *; omega)) _) | (with_reducible exact Below.refl _ _) | (with_reducible assumption) | (with_reducible refine Below.trans ?_ (Below.mono (by assumption) (by first | omega | (simp; done) | (simp; omega) | (simp at *; omega))))))) (by omega)), by simp; omega, (by (repeat (first | (with_reducible refine Below.drew ?_) | (with_reducible refine below_drewN ?_ _) | (with_reducible refine Below.alloc ?_ (by first | omega | (simp; done) | (simp; omega) | (simp at *; omega)) _) | (with_reducible refine Below.setCell ?_ (by first | omega | (simp; done) | (simp; omega) | (simp at *; omega)) _) | (with_reducible exact Below.refl _ _) | (with_reducible assumption) | (with_reducible refine Below.trans ?_ (Below.mono (by assumption) (by first | omega | (simp; done) | (simp; omega) | (simp at *; omega)))))))⟩
      case measure => (simp [intOf]) <;> omega
    · have hkk : k = 10 := by omega
      subst hkk
      have HR := Lib.hid (hvV_at H1.out)
      have HT : Hid (wr.there w.heap.size 0 hvV.toArray.size) := H3
      clear H1 H3
      go_wp2_with (first
        | (with_reducible refine wpList_load_mid rfl 157 _ rfl (w.heap.size + 1) 0 rfl hvV _ HR.out Tryz.underlying157 rfl (by kernel_rfl) ?_)
        | (with_reducible refine wpList_store_mid rfl 157 _ _ rfl w.heap.size 0 hvV.toArray rfl rfl HT.out (by kernel_rfl) (all_oneCell_toArray hvV_one) ?_))
      have hl := run_loadVar_mid (P := Tryz.prog) (wr.setCells w.heap.size 0 hvV) w.heap.size 0 157 hvV _ (World.rangeAt_setCells_same _ _ _ _ HT.out) Tryz.underlying157 rfl (by kernel_rfl)
      refine bodyPost_ret (v := .agg hvV.toArray) (results_mid Tryz.results108 rfl hl) rfl ⟨rfl, ?_⟩
      exact below_setCells (Nat.le_refl _) _ _ hB
end Go.Proofs.YtojaompfffpofaaGreat
