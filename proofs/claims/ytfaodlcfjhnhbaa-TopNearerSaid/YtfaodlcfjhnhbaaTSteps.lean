/- A table's decays, and its loads behind a step: tissue.decaysOf and tissue.behindStep for every right table. -/
import Derived.Test.YtfaodlcfjhnhbaaTDecay0
import Derived.Test.YtfaodlcfjhnhbaaTApp
import Derived.Test.YtfaodlcfjhnhbaaTSat
import Derived.Test.YtfaodlcfjhnhbaaLastReg
import Derived.Deep.DrawnRows
import Derived.Deep.CutRange
import Derived.Deep.CutBlock
import Derived.Outline
namespace Go.Proofs.Ytfaodlcfjhnhbaa
open Go.ChangeShapes Go.WideShapes Go.ChangeAt Go.RowKit
set_option linter.unusedVariables false
set_option linter.unusedSimpArgs false
attribute [local go_sem ↓] Go.wp_at_zero Go.wp_at_succ
/-- A block of n rows of four numbers of which k are filled by f. -/
def FillF (w : World) (b n k : Nat) (f : Nat → Ld) : Prop := b < w.heap.size ∧ (∀ j, j < k → w.cell? ⟨b, j * 4, none⟩ = some (.int .i64 (f j).a) ∧ w.cell? ⟨b, j * 4 + 1, none⟩ = some (.int .i64 (f j).b) ∧ w.cell? ⟨b, j * 4 + 2, none⟩ = some (.int .i64 (f j).c) ∧ w.cell? ⟨b, j * 4 + 3, none⟩ = some (.int .i64 (f j).d)) ∧ (∀ j, k ≤ j → j < n → ∀ i, i < 4 → ∃ v, w.cell? ⟨b, j * 4 + i, none⟩ = some v) ∧ (∀ j, w.frozen? ⟨b, j, none⟩ = false)
theorem FillF.below {w w' : World} {b n k : Nat} {f : Nat → Ld} (h : FillF w b n k f) (hb : Below w.heap.size w w') : FillF w' b n k f := by
  obtain ⟨h1, h2, h3, h4⟩ := h
  have hc : ∀ o, w'.cell? ⟨b, o, none⟩ = w.cell? ⟨b, o, none⟩ := fun o => hb.cell (p := ⟨b, o, none⟩) h1
  refine ⟨Nat.lt_of_lt_of_le h1 hb.size, fun j hj => ?_, fun j hj hn i hi => ?_, fun j => (hb.frozen (p := ⟨b, j, none⟩) h1).trans (h4 j)⟩
  · obtain ⟨g0, g1, g2, g3⟩ := h2 j hj
    exact ⟨(hc _).trans g0, (hc _).trans g1, (hc _).trans g2, (hc _).trans g3⟩
  · obtain ⟨v, g⟩ := h3 j hj hn i hi
    exact ⟨v, (hc _).trans g⟩
theorem fillF_step {w : World} {b n k : Nat} {f : Nat → Ld} {x0 x1 x2 x3 : Int} (h : FillF w b n k f) (hk : k < n) (e0 : (f k).a = x0) (e1 : (f k).b = x1) (e2 : (f k).c = x2) (e3 : (f k).d = x3) : FillF ((((w.setCell ⟨b, k * 4, none⟩ (.int .i64 x0)).setCell ⟨b, k * 4 + 1, none⟩ (.int .i64 x1)).setCell ⟨b, k * 4 + 2, none⟩ (.int .i64 x2)).setCell ⟨b, k * 4 + 3, none⟩ (.int .i64 x3)) b n (k + 1) f := by
  obtain ⟨h1, h2, h3, h4⟩ := h
  refine ⟨by simpa [size_set] using h1, ?_, ?_, ?_⟩
  · intro j hj
    by_cases e : j = k
    · subst e
      rw [e0, e1, e2, e3]
      obtain ⟨v0, g0⟩ := h3 j (Nat.le_refl _) hk 0 (by omega)
      obtain ⟨v1, g1⟩ := h3 j (Nat.le_refl _) hk 1 (by omega)
      obtain ⟨v2, g2⟩ := h3 j (Nat.le_refl _) hk 2 (by omega)
      obtain ⟨v3, g3⟩ := h3 j (Nat.le_refl _) hk 3 (by omega)
      refine ⟨?_, ?_, ?_, ?_⟩
      · rw [cell_off (Or.inr (by omega)), cell_off (Or.inr (by omega)), cell_off (Or.inr (by omega))]
        exact cell_same g0
      · rw [cell_off (Or.inr (by omega)), cell_off (Or.inr (by omega))]
        exact cell_same (v := v1) (by rw [cell_off (Or.inr (by omega))]; exact g1)
      · rw [cell_off (Or.inr (by omega))]
        exact cell_same (v := v2) (by rw [cell_off (Or.inr (by omega)), cell_off (Or.inr (by omega))]; exact g2)
      · exact cell_same (v := v3) (by rw [cell_off (Or.inr (by omega)), cell_off (Or.inr (by omega)), cell_off (Or.inr (by omega))]; exact g3)
    · have hj' : j < k := by omega
      obtain ⟨g0, g1, g2, g3⟩ := h2 j hj'
      have O : ∀ o, o < 4 → ((((w.setCell ⟨b, k * 4, none⟩ (.int .i64 x0)).setCell ⟨b, k * 4 + 1, none⟩ (.int .i64 x1)).setCell ⟨b, k * 4 + 2, none⟩ (.int .i64 x2)).setCell ⟨b, k * 4 + 3, none⟩ (.int .i64 x3)).cell? ⟨b, j * 4 + o, none⟩ = w.cell? ⟨b, j * 4 + o, none⟩ := fun o ho => by
        rw [cell_off (Or.inr (by omega)), cell_off (Or.inr (by omega)), cell_off (Or.inr (by omega)), cell_off (Or.inr (by omega))]
      exact ⟨(O 0 (by omega)).trans g0, (O 1 (by omega)).trans g1, (O 2 (by omega)).trans g2, (O 3 (by omega)).trans g3⟩
  · intro j hj hjn i hi
    obtain ⟨v, g⟩ := h3 j (by omega) hjn i hi
    exact ⟨v, by rw [cell_off (Or.inr (by omega)), cell_off (Or.inr (by omega)), cell_off (Or.inr (by omega)), cell_off (Or.inr (by omega))]; exact g⟩
  · intro j
    rw [World.frozen?_setCell, World.frozen?_setCell, World.frozen?_setCell, World.frozen?_setCell]
    exact h4 j
theorem fillF_done {w : World} {b n : Nat} {f : Nat → Ld} (h : FillF w b n n f) : SlLd w (some ⟨b, 0, none⟩) ((List.range n).map f) := by
  refine Or.inr ⟨b, 0, rfl, h.1, fun k hk => ?_⟩
  have hk' : k < n := by simpa using hk
  obtain ⟨g0, g1, g2, g3⟩ := h.2.1 k hk'
  simp only [List.getElem_map, List.getElem_range, Nat.zero_add]
  exact ⟨g0, g1, g2, g3⟩
theorem fillF_new {w : World} {n : Nat} {f : Nat → Ld} {T : TypeId} : FillF (w.alloc (.cells (Array.replicate (n * 4) (.int .i64 0)) T)) w.heap.size n 0 f := by
  refine ⟨by simp, fun j hj => by omega, fun j _ hj i hi => ⟨.int .i64 0, ?_⟩, fun j => by simp [go_sem]⟩
  have h : j * 4 + i < n * 4 := by omega
  show (w.alloc _).cell? ⟨w.heap.size, j * 4 + i, none⟩ = _
  first | (rw [World.cell?_alloc_new]; simp [h]; done) | (simp [go_sem, h]; done)
theorem getD_of {α : Type} [Inhabited α] {P : List α} {k : Nat} (hk : k < P.length) : P.getD k default = P[k] := by simp [List.getD, hk]
/-- A list of rows came back: a slice of the call's own. -/
def Rows4 (n : Nat) (f : Nat → Ld) (w : World) (e : Ending) (w' : World) : Prop := ∃ b, e = .returned (.slice (some ⟨b, 0, none⟩) n n) ∧ w.heap.size ≤ b ∧ SlLd w' (some ⟨b, 0, none⟩) ((List.range n).map f) ∧ Below w.heap.size w w'
noncomputable def decAt (s : Int) (L : Nat) (T : List Cm) (k : Nat) : Ld := ⟨decL s (T.getD k default).n L, decH s (T.getD k default).n L, decL s (T.getD k default).h L, decH s (T.getD k default).h L⟩
def stepAt (p q r s : Int) (P D : List Ld) (k : Nat) : Ld := ⟨apL (P.getD k default).a p (D.getD k default).a (D.getD k default).b, apH (P.getD k default).b q (D.getD k default).a (D.getD k default).b, apL (P.getD k default).c r (D.getD k default).c (D.getD k default).d, apH (P.getD k default).d s (D.getD k default).c (D.getD k default).d⟩
theorem mkPd {n : Nat} (h1 : 1 ≤ n) (h16 : n ≤ 16) (w : World) : (Instr.makeSlice 78 (.int .i64 n) (.int .i64 n)).run Try.prog w = .ok (.slice (some ⟨w.heap.size, 0, none⟩) n n) (w.alloc (.cells (Array.replicate (n * 4) (.int .i64 0)) 103)) := by
  rcases (show n = 1 ∨ n = 2 ∨ n = 3 ∨ n = 4 ∨ n = 5 ∨ n = 6 ∨ n = 7 ∨ n = 8 ∨ n = 9 ∨ n = 10 ∨ n = 11 ∨ n = 12 ∨ n = 13 ∨ n = 14 ∨ n = 15 ∨ n = 16 by omega) with rfl | rfl | rfl | rfl | rfl | rfl | rfl | rfl | rfl | rfl | rfl | rfl | rfl | rfl | rfl | rfl <;> kernel_rfl
set_option maxRecDepth 100000 in
set_option maxHeartbeats 2000000 in
theorem decaysOf_all (T : List Cm) (A : Option Addr) (cap : Nat) (s : Int) (L b cap' : Nat) (w : World) (hl1 : 1 ≤ T.length) (hl16 : T.length ≤ 16) (hc : ∀ k, (hk : k < T.length) → (1 ≤ T[k].n ∧ T[k].n ≤ 100000) ∧ 1 ≤ T[k].h ∧ T[k].h ≤ 100000) (s0 : 0 ≤ s) (s1 : s ≤ 1000000) (hL : L ≤ 40) (hlt : b < w.heap.size) (hcap : L + 1 ≤ cap') (hcap2 : cap' ≤ maxLen) (hR : RtAt w b L) (hT : SlCm w A T) :
    Calls Try.prog 39 #[.slice A T.length cap, .int .i64 s, .slice (some ⟨b, 0, none⟩) (L + 1) cap'] w (Rows4 T.length (decAt s L T) w) := by
  have HR := Lib.hid hR
  have HT := Lib.hid hT
  have HC := Lib.hid hc
  have HMK := Lib.hid (fun w => mkPd hl1 hl16 w)
  clear hR hT hc
  have hmk := HMK.out
  go_enter Try.func39, Try.ntmps39
  go_upto_region 2 with (fail)
  clear hmk
  generalize hm : w.alloc (.cells (Array.replicate (T.length * 4) (.int .i64 0)) 103) = w1
  have hb1 : Below w.heap.size w w1 := by rw [← hm]; exact (Below.refl _ _).alloc (Nat.le_refl _) _
  have HF1 := Lib.hid (show FillF w1 w.heap.size T.length 0 (decAt s L T) by rw [← hm]; exact fillF_new)
  clear hm
  go_wp2
  go_loopw [15] (fun i wr => ∃ k : Nat, k ≤ T.length ∧ i = .int .i64 k ∧ Hid (FillF wr w.heap.size T.length k (decAt s L T)) ∧ Below w.heap.size w wr) (fun i _ => T.length - (intOf i).toNat)
  case atStart => exact ⟨0, by omega, rfl, HF1, hb1⟩
  case round =>
    obtain ⟨k, hk, rfl, HF, hB⟩ := hrel
    have sz := hB.size
    by_cases hkl : k < T.length
    · have hkl2 : (k : Int) < T.length := by omega
      rcases (HT.out.below hB : SlCm wr A T) with hnil | ⟨tb, to', hAA, tlt, TL⟩
      · rw [hnil] at hkl; simp at hkl
      subst hAA
      obtain ⟨c0, c1, c2, c3⟩ := TL k hkl
      obtain ⟨⟨n0, n1⟩, h0, h1⟩ := HC.out k hkl
      have hda : decAt s L T k = ⟨decL s T[k].n L, decH s T[k].n L, decL s T[k].h L, decH s T[k].h L⟩ := by unfold decAt; rw [getD_of hkl]
      obtain ⟨cn, hcn⟩ : ∃ z, Hid (T[k].n = z) := ⟨T[k].n, Lib.hid rfl⟩
      obtain ⟨ch, hch⟩ : ∃ z, Hid (T[k].h = z) := ⟨T[k].h, Lib.hid rfl⟩
      obtain ⟨cb, hcb⟩ : ∃ z, Hid (T[k].b = z) := ⟨T[k].b, Lib.hid rfl⟩
      obtain ⟨cs', hcs⟩ : ∃ z, Hid (T[k].s = z) := ⟨T[k].s, Lib.hid rfl⟩
      rw [hcn.out] at c0 n0 n1 hda
      rw [hch.out] at c1 h0 h1 hda
      rw [hcb.out] at c2
      rw [hcs.out] at c3
      obtain ⟨x0, hx0⟩ : ∃ z, Hid (decL s cn L = z) := ⟨_, rfl⟩
      obtain ⟨x1, hx1⟩ : ∃ z, Hid (decH s cn L = z) := ⟨_, rfl⟩
      obtain ⟨x2, hx2⟩ : ∃ z, Hid (decL s ch L = z) := ⟨_, rfl⟩
      obtain ⟨x3, hx3⟩ : ∃ z, Hid (decH s ch L = z) := ⟨_, rfl⟩
      have hbl : b < wr.heap.size := by omega
      have HDN : Hid (∀ w', Below w.heap.size w w' → Calls Try.prog 55 #[.int .i64 s, .int .i64 cn, .slice (some ⟨b, 0, none⟩) (L + 1) cap'] w' fun e w'' => e = .returned (.agg #[.int .i64 x0, .int .i64 x1]) ∧ Below w'.heap.size w' w'') := fun w' hb => by
        rw [← hx0.out, ← hx1.out]; exact decayOf_all s cn L b cap' w' s0 s1 n0 n1 hL (Nat.lt_of_lt_of_le hlt hb.size) hcap hcap2 (HR.out.below hb hlt)
      have HDH : Hid (∀ w', Below w.heap.size w w' → Calls Try.prog 55 #[.int .i64 s, .int .i64 ch, .slice (some ⟨b, 0, none⟩) (L + 1) cap'] w' fun e w'' => e = .returned (.agg #[.int .i64 x2, .int .i64 x3]) ∧ Below w'.heap.size w' w'') := fun w' hb => by
        rw [← hx2.out, ← hx3.out]; exact decayOf_all s ch L b cap' w' s0 s1 h0 h1 hL (Nat.lt_of_lt_of_le hlt hb.size) hcap hcap2 (HR.out.below hb hlt)
      have HX := Lib.hid (show (decAt s L T k).a = x0 ∧ (decAt s L T k).b = x1 ∧ (decAt s L T k).c = x2 ∧ (decAt s L T k).d = x3 by rw [hda, hx0.out, hx1.out, hx2.out, hx3.out]; exact ⟨rfl, rfl, rfl, rfl⟩)
      clear TL hda hcn hch hcb hcs hx0 hx1 hx2 hx3 n0 n1 h0 h1
      go_upto_region 5 with (fail)
      have q0 : (wr.alloc (.cells #[.int .i64 cn, .int .i64 ch, .int .i64 cb, .int .i64 cs'] 71)).cell? ⟨wr.heap.size, 0, none⟩ = some (.int .i64 cn) := by simp [go_sem, World.cell?_alloc_past]
      have q1 : (wr.alloc (.cells #[.int .i64 cn, .int .i64 ch, .int .i64 cb, .int .i64 cs'] 71)).cell? ⟨wr.heap.size, 1, none⟩ = some (.int .i64 ch) := by simp [go_sem, World.cell?_alloc_past]
      have s2 : wr.heap.size < (wr.alloc (.cells #[.int .i64 cn, .int .i64 ch, .int .i64 cb, .int .i64 cs'] 71)).heap.size := by simp
      have hb2 : Below wr.heap.size wr (wr.alloc (.cells #[.int .i64 cn, .int .i64 ch, .int .i64 cb, .int .i64 cs'] 71)) := (Below.refl _ _).alloc (Nat.le_refl _) _
      generalize hw2 : wr.alloc (.cells #[.int .i64 cn, .int .i64 ch, .int .i64 cb, .int .i64 cs'] 71) = w2 at *
      clear hw2 c0 c1 c2 c3
      have hB2 : Below w.heap.size w w2 := hB.trans (hb2.mono hB.size)
      have HF2 := Lib.hid (HF.out.below hb2)
      have HS : Hid (∀ w', Below w2.heap.size w2 w' → w'.cell? ⟨wr.heap.size, 0, none⟩ = some (.int .i64 cn) ∧ w'.cell? ⟨wr.heap.size, 1, none⟩ = some (.int .i64 ch)) := fun w' hb => ⟨(hb.cell (p := ⟨wr.heap.size, 0, none⟩) s2).trans q0, (hb.cell (p := ⟨wr.heap.size, 1, none⟩) s2).trans q1⟩
      clear q0 q1 HF hb2
      refine wp_region_Z (S := (fun w' => w'.cell? ⟨wr.heap.size, 0, none⟩ = some (.int .i64 cn) ∧ w'.cell? ⟨wr.heap.size, 1, none⟩ = some (.int .i64 ch))) 14 (by kernel_rfl) (by kernel_rfl) (by kernel_rfl) (by exact HS.out _ (Below.refl w2.heap.size w2).drew) (fun hHeld => ?_)
      have hB0 : Below w2.heap.size w2 w2.drew := (Below.refl w2.heap.size w2).drew
      generalize hdr : w2.drew = u0 at *
      clear hdr
      refine wpAnyZ_take (i := 0) (oi := ⟨some 20, _, _, _, _, _⟩) (v := ?_) (by kernel_rfl) (by kernel_rfl) rfl rfl (by kernel_rfl) (by kernel_rfl) (by kernel_rfl) (fun _ _ _ h => h) (Or.inl ⟨by kernel_rfl, ?_⟩) (by assumption) ?_
      rotate_left
      · (intro w hSw; (try dsimp only at hSw); go_simp; all_goals with_reducible rfl)
      try simp only [Act.put, List.setIfInBounds_toArray, List.set_cons_zero, List.set_cons_succ]
      refine wpAnyZ_take (i := 1) (oi := ⟨some 21, _, _, _, _, _⟩) (v := ?_) (by kernel_rfl) (by kernel_rfl) rfl rfl (by kernel_rfl) (by kernel_rfl) (by kernel_rfl) (fun _ _ _ h => h) (Or.inl ⟨by kernel_rfl, ?_⟩) (by assumption) ?_
      rotate_left
      · (intro w hSw; (try dsimp only at hSw); go_simp; all_goals with_reducible rfl)
      try simp only [Act.put, List.setIfInBounds_toArray, List.set_cons_zero, List.set_cons_succ]
      refine wpAnyZ_take (i := 2) (oi := ⟨some 22, _, _, _, _, _⟩) (v := ?_) (by kernel_rfl) (by kernel_rfl) rfl rfl (by kernel_rfl) (by kernel_rfl) (by kernel_rfl) (fun _ _ _ h => h) (Or.inl ⟨by kernel_rfl, ?_⟩) (by assumption) ?_
      rotate_left
      · (intro w hSw; (try dsimp only at hSw); go_simp; all_goals with_reducible rfl)
      try simp only [Act.put, List.setIfInBounds_toArray, List.set_cons_zero, List.set_cons_succ]
      refine wpAnyZ_take (i := 3) (oi := ⟨some 23, _, _, _, _, _⟩) (v := ?_) (by kernel_rfl) (by kernel_rfl) rfl rfl (by kernel_rfl) (by kernel_rfl) (by kernel_rfl) (fun _ _ _ h => h) (Or.inl ⟨by kernel_rfl, ?_⟩) (by assumption) ?_
      rotate_left
      · (intro w hSw; (try dsimp only at hSw); go_simp; all_goals with_reducible rfl)
      try simp only [Act.put, List.setIfInBounds_toArray, List.set_cons_zero, List.set_cons_succ]
      refine wpAnyZ_take (i := 4) (oi := ⟨some 24, _, _, _, _, _⟩) (v := ?_) (by kernel_rfl) (by kernel_rfl) rfl rfl (by kernel_rfl) (by kernel_rfl) (by kernel_rfl) (fun _ _ _ h => h) (Or.inl ⟨by kernel_rfl, ?_⟩) (by assumption) ?_
      rotate_left
      · (intro w hSw; (try dsimp only at hSw); go_simp; all_goals with_reducible rfl)
      try simp only [Act.put, List.setIfInBounds_toArray, List.set_cons_zero, List.set_cons_succ]
      refine wpAnyZ_take (i := 5) (oi := ⟨some 25, _, _, _, _, _⟩) (v := ?_) (by kernel_rfl) (by kernel_rfl) rfl rfl (by kernel_rfl) (by kernel_rfl) (by kernel_rfl) (fun _ _ _ h => h) (Or.inl ⟨by kernel_rfl, ?_⟩) (by assumption) ?_
      rotate_left
      · (intro w hSw; (try dsimp only at hSw); go_simp; all_goals with_reducible rfl)
      try simp only [Act.put, List.setIfInBounds_toArray, List.set_cons_zero, List.set_cons_succ]
      refine wpAnyZ_take (i := 7) (oi := ⟨some 27, _, _, _, _, _⟩) (v := ?_) (by kernel_rfl) (by kernel_rfl) rfl rfl (by kernel_rfl) (by kernel_rfl) (by kernel_rfl) (fun _ _ _ h => h) (Or.inl ⟨by kernel_rfl, ?_⟩) (by assumption) ?_
      rotate_left
      · (intro w hSw; (try dsimp only at hSw); go_simp; all_goals with_reducible rfl)
      try simp only [Act.put, List.setIfInBounds_toArray, List.set_cons_zero, List.set_cons_succ]
      refine wpAnyZ_take (i := 8) (oi := ⟨some 28, _, _, _, _, _⟩) (v := ?_) (by kernel_rfl) (by kernel_rfl) rfl rfl (by kernel_rfl) (by kernel_rfl) (by kernel_rfl) (fun _ _ _ h => h) (Or.inl ⟨by kernel_rfl, ?_⟩) (by assumption) ?_
      rotate_left
      · (intro w hSw; (try dsimp only at hSw); go_simp; all_goals with_reducible rfl)
      try simp only [Act.put, List.setIfInBounds_toArray, List.set_cons_zero, List.set_cons_succ]
      refine wpAnyZ_take (i := 9) (oi := ⟨some 29, _, _, _, _, _⟩) (v := ?_) (by kernel_rfl) (by kernel_rfl) rfl rfl (by kernel_rfl) (by kernel_rfl) (by kernel_rfl) (fun _ _ _ h => h) (Or.inl ⟨by kernel_rfl, ?_⟩) (by assumption) ?_
      rotate_left
      · (intro w hSw; (try dsimp only at hSw); go_simp; all_goals with_reducible rfl)
      try simp only [Act.put, List.setIfInBounds_toArray, List.set_cons_zero, List.set_cons_succ]
      refine wpAnyZ_take (i := 10) (oi := ⟨some 30, _, _, _, _, _⟩) (v := ?_) (by kernel_rfl) (by kernel_rfl) rfl rfl (by kernel_rfl) (by kernel_rfl) (by kernel_rfl) (fun _ _ _ h => h) (Or.inl ⟨by kernel_rfl, ?_⟩) (by assumption) ?_
      rotate_left
      · (intro w hSw; (try dsimp only at hSw); go_simp; all_goals with_reducible rfl)
      try simp only [Act.put, List.setIfInBounds_toArray, List.set_cons_zero, List.set_cons_succ]
      refine wpAnyZ_call (q := 6) (by kernel_rfl) rfl rfl (fun K hK => ?_)
      go_simp
      refine (HDN.out _ (hB2.trans (hB0.mono hB2.size))).mono ?_
      rintro e v1 ⟨rfl, hv1⟩
      have hV1 : Below w2.heap.size w2 v1 := hB0.trans (hv1.mono hB0.size)
      clear hv1
      go_wp2_with fail
      refine hK.out _ _ (by exact HS.out _ hV1) (fun hHeld => ?_)
      clear hK K
      try simp only [Act.put, List.setIfInBounds_toArray, List.set_cons_zero, List.set_cons_succ]
      refine wpAnyZ_call (q := 11) (by kernel_rfl) rfl rfl (fun K hK => ?_)
      go_simp
      refine (HDH.out _ (hB2.trans (hV1.mono hB2.size))).mono ?_
      rintro e v2 ⟨rfl, hv2⟩
      have hV2 : Below w2.heap.size w2 v2 := hV1.trans (hv2.mono hV1.size)
      clear hv2
      go_wp2_with fail
      refine hK.out _ _ (by exact HS.out _ hV2) (fun hHeld => ?_)
      clear hK K
      try simp only [Act.put, List.setIfInBounds_toArray, List.set_cons_zero, List.set_cons_succ]
      refine wpAnyZ_take (i := 12) (oi := ⟨some 32, _, _, _, _, _⟩) (v := ?_) (by kernel_rfl) (by kernel_rfl) rfl rfl (by kernel_rfl) (by kernel_rfl) (by kernel_rfl) (fun _ _ _ h => h) (Or.inl ⟨by kernel_rfl, ?_⟩) (by assumption) ?_
      rotate_left
      · (intro w hSw; (try dsimp only at hSw); go_simp; all_goals with_reducible rfl)
      try simp only [Act.put, List.setIfInBounds_toArray, List.set_cons_zero, List.set_cons_succ]
      refine wpAnyZ_take (i := 13) (oi := ⟨some 33, _, _, _, _, _⟩) (v := ?_) (by kernel_rfl) (by kernel_rfl) rfl rfl (by kernel_rfl) (by kernel_rfl) (by kernel_rfl) (fun _ _ _ h => h) (Or.inl ⟨by kernel_rfl, ?_⟩) (by assumption) ?_
      rotate_left
      · (intro w hSw; (try dsimp only at hSw); go_simp; all_goals with_reducible rfl)
      try simp only [Act.put, List.setIfInBounds_toArray, List.set_cons_zero, List.set_cons_succ]
      have hle : w.heap.size ≤ w.heap.size := Nat.le_refl _
      have HF3 := HF2.out.below hV2
      have HN := Lib.hid (fillF_step HF3 hkl HX.out.1 HX.out.2.1 HX.out.2.2.1 HX.out.2.2.2)
      obtain ⟨y0, g0⟩ := HF3.2.2.1 k (Nat.le_refl _) hkl 0 (by omega)
      obtain ⟨y1, g1⟩ := HF3.2.2.1 k (Nat.le_refl _) hkl 1 (by omega)
      obtain ⟨y2, g2⟩ := HF3.2.2.1 k (Nat.le_refl _) hkl 2 (by omega)
      obtain ⟨y3, g3⟩ := HF3.2.2.1 k (Nat.le_refl _) hkl 3 (by omega)
      rw [Nat.add_zero] at g0
      have gf := HF3.2.2.2
      have hB3 : Below w.heap.size w v2 := hB2.trans (hV2.mono hB2.size)
      have HB4 := Lib.hid ((((hB3.setCell (p := ⟨w.heap.size, k * 4, none⟩) hle (.int .i64 x0)).setCell (p := ⟨w.heap.size, k * 4 + 1, none⟩) hle (.int .i64 x1)).setCell (p := ⟨w.heap.size, k * 4 + 2, none⟩) hle (.int .i64 x2)).setCell (p := ⟨w.heap.size, k * 4 + 3, none⟩) hle (.int .i64 x3))
      clear HF3 hB3
      refine wpAnyZ_last (by kernel_rfl) rfl (fun K hK => ?_)
      go_simp
      go_wp2_with fail
      refine hK.out _ _ ?_
      clear hK K
      try simp only [Act.put, List.setIfInBounds_toArray, List.set_cons_zero, List.set_cons_succ]
      go_wp2
      go_roundw
      case rel => exact ⟨k + 1, by omega, by go_num, HN, HB4.out⟩
      case measure => (simp [intOf]) <;> omega
    · have hkl2 : ¬ (k : Int) < T.length := by omega
      have hkk : k = T.length := by omega
      have HD := HF.out
      rw [hkk] at HD
      have HDD := Lib.hid (fillF_done HD)
      clear hkk HD HF
      go_wp2
      go_ret
      exact ⟨w.heap.size, rfl, Nat.le_refl _, HDD.out, hB⟩
set_option maxRecDepth 100000 in
set_option maxHeartbeats 2000000 in
theorem behindStep_all (P D : List Ld) (A B : Option Addr) (cap cap' : Nat) (p q r s : Int) (w : World) (hl1 : 1 ≤ P.length) (hl16 : P.length ≤ 16) (hDl : D.length = P.length)
    (hP : ∀ k, (hk : k < P.length) → (0 ≤ P[k].a ∧ P[k].a ≤ 100000000) ∧ (0 ≤ P[k].b ∧ P[k].b ≤ 100000000) ∧ (0 ≤ P[k].c ∧ P[k].c ≤ 100000000) ∧ 0 ≤ P[k].d ∧ P[k].d ≤ 100000000)
    (hD : ∀ k, (hk : k < D.length) → (0 ≤ D[k].a ∧ D[k].a ≤ 1000000000) ∧ (0 ≤ D[k].b ∧ D[k].b ≤ 1000000000) ∧ (0 ≤ D[k].c ∧ D[k].c ≤ 1000000000) ∧ 0 ≤ D[k].d ∧ D[k].d ≤ 1000000000)
    (hp : 0 ≤ p ∧ p ≤ 100000000) (hq : 0 ≤ q ∧ q ≤ 100000000) (hr : 0 ≤ r ∧ r ≤ 100000000) (hs : 0 ≤ s ∧ s ≤ 100000000) (hPS : SlLd w A P) (hDS : SlLd w B D) :
    Calls Try.prog 38 #[.slice A P.length cap, .agg #[.int .i64 p, .int .i64 q, .int .i64 r, .int .i64 s], .slice B P.length cap'] w (Rows4 P.length (stepAt p q r s P D) w) := by
  have HP := Lib.hid hPS
  have HD := Lib.hid hDS
  have HPB := Lib.hid hP
  have HDB := Lib.hid hD
  have HMK := Lib.hid (fun w => mkLd hl1 hl16 w)
  clear hPS hDS hP hD
  have hmk := HMK.out
  go_enter Try.func38, Try.ntmps38
  go_upto_region 2 with (fail)
  clear hmk
  have a0 : (w.alloc (.cells #[.int .i64 p, .int .i64 q, .int .i64 r, .int .i64 s] 74)).heap.size = w.heap.size + 1 := by simp
  have b0 : ((w.alloc (.cells #[.int .i64 p, .int .i64 q, .int .i64 r, .int .i64 s] 74)).alloc (.cells (Array.replicate (P.length * 4) (.int .i64 0)) 49)).cell? ⟨w.heap.size, 0, none⟩ = some (.int .i64 p) := by simp [go_sem, World.cell?_alloc_past]
  have b1 : ((w.alloc (.cells #[.int .i64 p, .int .i64 q, .int .i64 r, .int .i64 s] 74)).alloc (.cells (Array.replicate (P.length * 4) (.int .i64 0)) 49)).cell? ⟨w.heap.size, 1, none⟩ = some (.int .i64 q) := by simp [go_sem, World.cell?_alloc_past]
  have b2 : ((w.alloc (.cells #[.int .i64 p, .int .i64 q, .int .i64 r, .int .i64 s] 74)).alloc (.cells (Array.replicate (P.length * 4) (.int .i64 0)) 49)).cell? ⟨w.heap.size, 2, none⟩ = some (.int .i64 r) := by simp [go_sem, World.cell?_alloc_past]
  have b3 : ((w.alloc (.cells #[.int .i64 p, .int .i64 q, .int .i64 r, .int .i64 s] 74)).alloc (.cells (Array.replicate (P.length * 4) (.int .i64 0)) 49)).cell? ⟨w.heap.size, 3, none⟩ = some (.int .i64 s) := by simp [go_sem, World.cell?_alloc_past]
  generalize hm : (w.alloc (.cells #[.int .i64 p, .int .i64 q, .int .i64 r, .int .i64 s] 74)).alloc (.cells (Array.replicate (P.length * 4) (.int .i64 0)) 49) = w1 at *
  have hb1 : Below w.heap.size w w1 := by rw [← hm]; (repeat (first | (with_reducible refine Below.drew ?_) | (with_reducible refine below_drewN ?_ _) | (with_reducible refine Below.alloc ?_ (by first | omega | (simp; done) | (simp; omega) | (simp at *; omega)) _) | (with_reducible refine Below.setCell ?_ (by first | omega | (simp; done) | (simp; omega) | (simp at *; omega)) _) | (with_reducible exact Below.refl _ _) | (with_reducible assumption) | (with_reducible refine Below.trans ?_ (Below.mono (by assumption) (by first | omega | (simp; done) | (simp; omega) | (simp at *; omega))))))
  have HF1 := Lib.hid (show FillF w1 (w.heap.size + 1) P.length 0 (stepAt p q r s P D) by rw [← hm, ← a0]; exact fillF_new)
  have l1 : w.heap.size < w1.heap.size := by rw [← hm]; simp; omega
  have lbb : w.heap.size < w.heap.size + 1 := Nat.lt_succ_self _
  have lb1 : w.heap.size + 1 ≤ w1.heap.size := l1
  clear hm a0
  generalize hbb : w.heap.size + 1 = bb at *
  clear hbb
  go_wp2
  go_loopw [15] (fun i wr => ∃ k : Nat, k ≤ P.length ∧ i = .int .i64 k ∧ Hid (FillF wr (bb) P.length k (stepAt p q r s P D)) ∧ Below (bb) w1 wr) (fun i _ => P.length - (intOf i).toNat)
  case atStart => exact ⟨0, by omega, rfl, HF1, Below.refl _ _⟩
  case round =>
    obtain ⟨k, hk, rfl, HF, hB⟩ := hrel
    have hBw : Below w.heap.size w wr := hb1.trans (hB.mono (by omega))
    have sz := hB.size
    have b0' := (hB.cell (p := ⟨w.heap.size, 0, none⟩) lbb).trans b0
    have b1' := (hB.cell (p := ⟨w.heap.size, 1, none⟩) lbb).trans b1
    have b2' := (hB.cell (p := ⟨w.heap.size, 2, none⟩) lbb).trans b2
    have b3' := (hB.cell (p := ⟨w.heap.size, 3, none⟩) lbb).trans b3
    by_cases hkl : k < P.length
    · have hkl2 : (k : Int) < P.length := by omega
      have hkd : k < D.length := by omega
      rcases (HP.out.below hBw : SlLd wr A P) with hnil | ⟨pb, po, hAA, plt, PL⟩
      · rw [hnil] at hkl; simp at hkl
      rcases (HD.out.below hBw : SlLd wr B D) with hnil | ⟨db, do', hBB, dlt, DL⟩
      · rw [hnil] at hkd; simp at hkd
      subst hAA hBB
      obtain ⟨c0, c1, c2, c3⟩ := PL k hkl
      obtain ⟨d0, d1, d2, d3⟩ := DL k hkd
      obtain ⟨pa, pbb, pc, pd⟩ := HPB.out k hkl
      obtain ⟨da, dbb, dc, dd⟩ := HDB.out k hkd
      have hda : stepAt p q r s P D k = ⟨apL P[k].a p D[k].a D[k].b, apH P[k].b q D[k].a D[k].b, apL P[k].c r D[k].c D[k].d, apH P[k].d s D[k].c D[k].d⟩ := by unfold stepAt; rw [getD_of hkl, getD_of hkd]
      obtain ⟨t0, ht0⟩ : ∃ z, Hid (P[k].a = z) := ⟨P[k].a, Lib.hid rfl⟩
      obtain ⟨t1, ht1⟩ : ∃ z, Hid (P[k].b = z) := ⟨P[k].b, Lib.hid rfl⟩
      obtain ⟨t2, ht2⟩ : ∃ z, Hid (P[k].c = z) := ⟨P[k].c, Lib.hid rfl⟩
      obtain ⟨t3, ht3⟩ : ∃ z, Hid (P[k].d = z) := ⟨P[k].d, Lib.hid rfl⟩
      obtain ⟨m0, hm0⟩ : ∃ z, Hid (D[k].a = z) := ⟨D[k].a, Lib.hid rfl⟩
      obtain ⟨m1, hm1⟩ : ∃ z, Hid (D[k].b = z) := ⟨D[k].b, Lib.hid rfl⟩
      obtain ⟨m2, hm2⟩ : ∃ z, Hid (D[k].c = z) := ⟨D[k].c, Lib.hid rfl⟩
      obtain ⟨m3, hm3⟩ : ∃ z, Hid (D[k].d = z) := ⟨D[k].d, Lib.hid rfl⟩
      rw [ht0.out] at c0 pa hda
      rw [ht1.out] at c1 pbb hda
      rw [ht2.out] at c2 pc hda
      rw [ht3.out] at c3 pd hda
      rw [hm0.out] at d0 da hda
      rw [hm1.out] at d1 dbb hda
      rw [hm2.out] at d2 dc hda
      rw [hm3.out] at d3 dd hda
      obtain ⟨x0, hx0⟩ : ∃ z, Hid (apL t0 p m0 m1 = z) := ⟨_, rfl⟩
      obtain ⟨x1, hx1⟩ : ∃ z, Hid (apH t1 q m0 m1 = z) := ⟨_, rfl⟩
      obtain ⟨x2, hx2⟩ : ∃ z, Hid (apL t2 r m2 m3 = z) := ⟨_, rfl⟩
      obtain ⟨x3, hx3⟩ : ∃ z, Hid (apH t3 s m2 m3 = z) := ⟨_, rfl⟩
      have HA1 : Hid (∀ w', Calls Try.prog 54 #[.agg #[.int .i64 t0, .int .i64 t1], .agg #[.int .i64 p, .int .i64 q], .agg #[.int .i64 m0, .int .i64 m1]] w' fun e w'' => e = .returned (.agg #[.int .i64 x0, .int .i64 x1]) ∧ Below w'.heap.size w' w'') := fun w' => by
        rw [← hx0.out, ← hx1.out]; exact approach_any t0 t1 p q m0 m1 w' pa.1 pa.2 pbb.1 pbb.2 hp.1 hp.2 hq.1 hq.2 da.1 da.2 dbb.1 dbb.2
      have HA2 : Hid (∀ w', Calls Try.prog 54 #[.agg #[.int .i64 t2, .int .i64 t3], .agg #[.int .i64 r, .int .i64 s], .agg #[.int .i64 m2, .int .i64 m3]] w' fun e w'' => e = .returned (.agg #[.int .i64 x2, .int .i64 x3]) ∧ Below w'.heap.size w' w'') := fun w' => by
        rw [← hx2.out, ← hx3.out]; exact approach_any t2 t3 r s m2 m3 w' pc.1 pc.2 pd.1 pd.2 hr.1 hr.2 hs.1 hs.2 dc.1 dc.2 dd.1 dd.2
      have HX := Lib.hid (show (stepAt p q r s P D k).a = x0 ∧ (stepAt p q r s P D k).b = x1 ∧ (stepAt p q r s P D k).c = x2 ∧ (stepAt p q r s P D k).d = x3 by rw [hda, hx0.out, hx1.out, hx2.out, hx3.out]; exact ⟨rfl, rfl, rfl, rfl⟩)
      clear PL DL hda ht0 ht1 ht2 ht3 hm0 hm1 hm2 hm3 hx0 hx1 hx2 hx3 pa pbb pc pd da dbb dc dd
      go_upto_region 5 with (fail)
      have q0 : (wr.alloc (.cells #[.int .i64 t0, .int .i64 t1, .int .i64 t2, .int .i64 t3] 49)).cell? ⟨wr.heap.size, 0, none⟩ = some (.int .i64 t0) := by simp [go_sem, World.cell?_alloc_past]
      have q1 : (wr.alloc (.cells #[.int .i64 t0, .int .i64 t1, .int .i64 t2, .int .i64 t3] 49)).cell? ⟨wr.heap.size, 1, none⟩ = some (.int .i64 t1) := by simp [go_sem, World.cell?_alloc_past]
      have q2 : (wr.alloc (.cells #[.int .i64 t0, .int .i64 t1, .int .i64 t2, .int .i64 t3] 49)).cell? ⟨wr.heap.size, 2, none⟩ = some (.int .i64 t2) := by simp [go_sem, World.cell?_alloc_past]
      have q3 : (wr.alloc (.cells #[.int .i64 t0, .int .i64 t1, .int .i64 t2, .int .i64 t3] 49)).cell? ⟨wr.heap.size, 3, none⟩ = some (.int .i64 t3) := by simp [go_sem, World.cell?_alloc_past]
      have s2 : wr.heap.size < (wr.alloc (.cells #[.int .i64 t0, .int .i64 t1, .int .i64 t2, .int .i64 t3] 49)).heap.size := by simp
      have hb2 : Below wr.heap.size wr (wr.alloc (.cells #[.int .i64 t0, .int .i64 t1, .int .i64 t2, .int .i64 t3] 49)) := (Below.refl _ _).alloc (Nat.le_refl _) _
      generalize hw2 : (wr.alloc (.cells #[.int .i64 t0, .int .i64 t1, .int .i64 t2, .int .i64 t3] 49)) = w2 at *
      clear hw2 c0 c1 c2 c3
      replace b0' := (hb2.cell (p := ⟨w.heap.size, 0, none⟩) (show w.heap.size < wr.heap.size by omega)).trans b0'
      replace b1' := (hb2.cell (p := ⟨w.heap.size, 1, none⟩) (show w.heap.size < wr.heap.size by omega)).trans b1'
      replace b2' := (hb2.cell (p := ⟨w.heap.size, 2, none⟩) (show w.heap.size < wr.heap.size by omega)).trans b2'
      replace b3' := (hb2.cell (p := ⟨w.heap.size, 3, none⟩) (show w.heap.size < wr.heap.size by omega)).trans b3'
      replace d0 := (hb2.cell (p := ⟨db, do' + k * 4, none⟩) dlt).trans d0
      replace d1 := (hb2.cell (p := ⟨db, do' + k * 4 + 1, none⟩) dlt).trans d1
      replace d2 := (hb2.cell (p := ⟨db, do' + k * 4 + 2, none⟩) dlt).trans d2
      replace d3 := (hb2.cell (p := ⟨db, do' + k * 4 + 3, none⟩) dlt).trans d3
      have lw2 : w.heap.size < w2.heap.size := by omega
      have ld2 : db < w2.heap.size := by omega
      have HF2 := Lib.hid (HF.out.below hb2)
      have hB2 : Below (bb) w1 w2 := hB.trans (hb2.mono (show bb ≤ wr.heap.size by omega))
      have HS : Hid (∀ w', Below w2.heap.size w2 w' → w'.cell? ⟨w.heap.size, 0, none⟩ = some (.int .i64 p) ∧ w'.cell? ⟨w.heap.size, 1, none⟩ = some (.int .i64 q) ∧ w'.cell? ⟨w.heap.size, 2, none⟩ = some (.int .i64 r) ∧ w'.cell? ⟨w.heap.size, 3, none⟩ = some (.int .i64 s) ∧ w'.cell? ⟨wr.heap.size, 0, none⟩ = some (.int .i64 t0) ∧ w'.cell? ⟨wr.heap.size, 1, none⟩ = some (.int .i64 t1) ∧ w'.cell? ⟨wr.heap.size, 2, none⟩ = some (.int .i64 t2) ∧ w'.cell? ⟨wr.heap.size, 3, none⟩ = some (.int .i64 t3) ∧ w'.cell? ⟨db, do' + k * 4, none⟩ = some (.int .i64 m0) ∧ w'.cell? ⟨db, do' + k * 4 + 1, none⟩ = some (.int .i64 m1) ∧ w'.cell? ⟨db, do' + k * 4 + 2, none⟩ = some (.int .i64 m2) ∧ w'.cell? ⟨db, do' + k * 4 + 3, none⟩ = some (.int .i64 m3)) := fun w' hb => ⟨(hb.cell (p := ⟨w.heap.size, 0, none⟩) lw2).trans b0', (hb.cell (p := ⟨w.heap.size, 1, none⟩) lw2).trans b1', (hb.cell (p := ⟨w.heap.size, 2, none⟩) lw2).trans b2', (hb.cell (p := ⟨w.heap.size, 3, none⟩) lw2).trans b3', (hb.cell (p := ⟨wr.heap.size, 0, none⟩) s2).trans q0, (hb.cell (p := ⟨wr.heap.size, 1, none⟩) s2).trans q1, (hb.cell (p := ⟨wr.heap.size, 2, none⟩) s2).trans q2, (hb.cell (p := ⟨wr.heap.size, 3, none⟩) s2).trans q3, (hb.cell (p := ⟨db, do' + k * 4, none⟩) ld2).trans d0, (hb.cell (p := ⟨db, do' + k * 4 + 1, none⟩) ld2).trans d1, (hb.cell (p := ⟨db, do' + k * 4 + 2, none⟩) ld2).trans d2, (hb.cell (p := ⟨db, do' + k * 4 + 3, none⟩) ld2).trans d3⟩
      clear b0' b1' b2' b3' q0 q1 q2 q3 d0 d1 d2 d3 HF hb2
      refine wp_region_Z (S := (fun w' => w'.cell? ⟨w.heap.size, 0, none⟩ = some (.int .i64 p) ∧ w'.cell? ⟨w.heap.size, 1, none⟩ = some (.int .i64 q) ∧ w'.cell? ⟨w.heap.size, 2, none⟩ = some (.int .i64 r) ∧ w'.cell? ⟨w.heap.size, 3, none⟩ = some (.int .i64 s) ∧ w'.cell? ⟨wr.heap.size, 0, none⟩ = some (.int .i64 t0) ∧ w'.cell? ⟨wr.heap.size, 1, none⟩ = some (.int .i64 t1) ∧ w'.cell? ⟨wr.heap.size, 2, none⟩ = some (.int .i64 t2) ∧ w'.cell? ⟨wr.heap.size, 3, none⟩ = some (.int .i64 t3) ∧ w'.cell? ⟨db, do' + k * 4, none⟩ = some (.int .i64 m0) ∧ w'.cell? ⟨db, do' + k * 4 + 1, none⟩ = some (.int .i64 m1) ∧ w'.cell? ⟨db, do' + k * 4 + 2, none⟩ = some (.int .i64 m2) ∧ w'.cell? ⟨db, do' + k * 4 + 3, none⟩ = some (.int .i64 m3))) 24 (by kernel_rfl) (by kernel_rfl) (by kernel_rfl) (by exact HS.out _ (Below.refl w2.heap.size w2).drew) (fun hHeld => ?_)
      have hB0 : Below w2.heap.size w2 w2.drew := (Below.refl w2.heap.size w2).drew
      generalize hdr : w2.drew = u0 at *
      clear hdr
      refine wpAnyZ_take (i := 0) (oi := ⟨some 20, _, _, _, _, _⟩) (v := ?_) (by kernel_rfl) (by kernel_rfl) rfl rfl (by kernel_rfl) (by kernel_rfl) (by kernel_rfl) (fun _ _ _ h => h) (Or.inl ⟨by kernel_rfl, ?_⟩) (by assumption) ?_
      rotate_left
      · (intro w hSw; (try dsimp only at hSw); go_simp; all_goals with_reducible rfl)
      try simp only [Act.put, List.setIfInBounds_toArray, List.set_cons_zero, List.set_cons_succ]
      refine wpAnyZ_take (i := 1) (oi := ⟨some 21, _, _, _, _, _⟩) (v := ?_) (by kernel_rfl) (by kernel_rfl) rfl rfl (by kernel_rfl) (by kernel_rfl) (by kernel_rfl) (fun _ _ _ h => h) (Or.inl ⟨by kernel_rfl, ?_⟩) (by assumption) ?_
      rotate_left
      · (intro w hSw; (try dsimp only at hSw); go_simp; all_goals with_reducible rfl)
      try simp only [Act.put, List.setIfInBounds_toArray, List.set_cons_zero, List.set_cons_succ]
      refine wpAnyZ_take (i := 2) (oi := ⟨some 22, _, _, _, _, _⟩) (v := ?_) (by kernel_rfl) (by kernel_rfl) rfl rfl (by kernel_rfl) (by kernel_rfl) (by kernel_rfl) (fun _ _ _ h => h) (Or.inl ⟨by kernel_rfl, ?_⟩) (by assumption) ?_
      rotate_left
      · (intro w hSw; (try dsimp only at hSw); go_simp; all_goals with_reducible rfl)
      try simp only [Act.put, List.setIfInBounds_toArray, List.set_cons_zero, List.set_cons_succ]
      refine wpAnyZ_take (i := 3) (oi := ⟨some 23, _, _, _, _, _⟩) (v := ?_) (by kernel_rfl) (by kernel_rfl) rfl rfl (by kernel_rfl) (by kernel_rfl) (by kernel_rfl) (fun _ _ _ h => h) (Or.inl ⟨by kernel_rfl, ?_⟩) (by assumption) ?_
      rotate_left
      · (intro w hSw; (try dsimp only at hSw); go_simp; all_goals with_reducible rfl)
      try simp only [Act.put, List.setIfInBounds_toArray, List.set_cons_zero, List.set_cons_succ]
      refine wpAnyZ_take (i := 4) (oi := ⟨some 24, _, _, _, _, _⟩) (v := ?_) (by kernel_rfl) (by kernel_rfl) rfl rfl (by kernel_rfl) (by kernel_rfl) (by kernel_rfl) (fun _ _ _ h => h) (Or.inl ⟨by kernel_rfl, ?_⟩) (by assumption) ?_
      rotate_left
      · (intro w hSw; (try dsimp only at hSw); go_simp; all_goals with_reducible rfl)
      try simp only [Act.put, List.setIfInBounds_toArray, List.set_cons_zero, List.set_cons_succ]
      refine wpAnyZ_take (i := 5) (oi := ⟨some 25, _, _, _, _, _⟩) (v := ?_) (by kernel_rfl) (by kernel_rfl) rfl rfl (by kernel_rfl) (by kernel_rfl) (by kernel_rfl) (fun _ _ _ h => h) (Or.inl ⟨by kernel_rfl, ?_⟩) (by assumption) ?_
      rotate_left
      · (intro w hSw; (try dsimp only at hSw); go_simp; all_goals with_reducible rfl)
      try simp only [Act.put, List.setIfInBounds_toArray, List.set_cons_zero, List.set_cons_succ]
      refine wpAnyZ_take (i := 6) (oi := ⟨some 26, _, _, _, _, _⟩) (v := ?_) (by kernel_rfl) (by kernel_rfl) rfl rfl (by kernel_rfl) (by kernel_rfl) (by kernel_rfl) (fun _ _ _ h => h) (Or.inl ⟨by kernel_rfl, ?_⟩) (by assumption) ?_
      rotate_left
      · (intro w hSw; (try dsimp only at hSw); go_simp; all_goals with_reducible rfl)
      try simp only [Act.put, List.setIfInBounds_toArray, List.set_cons_zero, List.set_cons_succ]
      refine wpAnyZ_take (i := 7) (oi := ⟨some 27, _, _, _, _, _⟩) (v := ?_) (by kernel_rfl) (by kernel_rfl) rfl rfl (by kernel_rfl) (by kernel_rfl) (by kernel_rfl) (fun _ _ _ h => h) (Or.inl ⟨by kernel_rfl, ?_⟩) (by assumption) ?_
      rotate_left
      · (intro w hSw; (try dsimp only at hSw); go_simp; all_goals with_reducible rfl)
      try simp only [Act.put, List.setIfInBounds_toArray, List.set_cons_zero, List.set_cons_succ]
      refine wpAnyZ_take (i := 8) (oi := ⟨some 28, _, _, _, _, _⟩) (v := ?_) (by kernel_rfl) (by kernel_rfl) rfl rfl (by kernel_rfl) (by kernel_rfl) (by kernel_rfl) (fun _ _ _ h => h) (Or.inl ⟨by kernel_rfl, ?_⟩) (by assumption) ?_
      rotate_left
      · (intro w hSw; (try dsimp only at hSw); go_simp; all_goals with_reducible rfl)
      try simp only [Act.put, List.setIfInBounds_toArray, List.set_cons_zero, List.set_cons_succ]
      refine wpAnyZ_take (i := 9) (oi := ⟨some 29, _, _, _, _, _⟩) (v := ?_) (by kernel_rfl) (by kernel_rfl) rfl rfl (by kernel_rfl) (by kernel_rfl) (by kernel_rfl) (fun _ _ _ h => h) (Or.inl ⟨by kernel_rfl, ?_⟩) (by assumption) ?_
      rotate_left
      · (intro w hSw; (try dsimp only at hSw); go_simp; all_goals with_reducible rfl)
      try simp only [Act.put, List.setIfInBounds_toArray, List.set_cons_zero, List.set_cons_succ]
      refine wpAnyZ_take (i := 10) (oi := ⟨some 30, _, _, _, _, _⟩) (v := ?_) (by kernel_rfl) (by kernel_rfl) rfl rfl (by kernel_rfl) (by kernel_rfl) (by kernel_rfl) (fun _ _ _ h => h) (Or.inl ⟨by kernel_rfl, ?_⟩) (by assumption) ?_
      rotate_left
      · (intro w hSw; (try dsimp only at hSw); go_simp; all_goals with_reducible rfl)
      try simp only [Act.put, List.setIfInBounds_toArray, List.set_cons_zero, List.set_cons_succ]
      refine wpAnyZ_take (i := 12) (oi := ⟨some 32, _, _, _, _, _⟩) (v := ?_) (by kernel_rfl) (by kernel_rfl) rfl rfl (by kernel_rfl) (by kernel_rfl) (by kernel_rfl) (fun _ _ _ h => h) (Or.inl ⟨by kernel_rfl, ?_⟩) (by assumption) ?_
      rotate_left
      · (intro w hSw; (try dsimp only at hSw); go_simp; all_goals with_reducible rfl)
      try simp only [Act.put, List.setIfInBounds_toArray, List.set_cons_zero, List.set_cons_succ]
      refine wpAnyZ_take (i := 13) (oi := ⟨some 33, _, _, _, _, _⟩) (v := ?_) (by kernel_rfl) (by kernel_rfl) rfl rfl (by kernel_rfl) (by kernel_rfl) (by kernel_rfl) (fun _ _ _ h => h) (Or.inl ⟨by kernel_rfl, ?_⟩) (by assumption) ?_
      rotate_left
      · (intro w hSw; (try dsimp only at hSw); go_simp; all_goals with_reducible rfl)
      try simp only [Act.put, List.setIfInBounds_toArray, List.set_cons_zero, List.set_cons_succ]
      refine wpAnyZ_take (i := 14) (oi := ⟨some 34, _, _, _, _, _⟩) (v := ?_) (by kernel_rfl) (by kernel_rfl) rfl rfl (by kernel_rfl) (by kernel_rfl) (by kernel_rfl) (fun _ _ _ h => h) (Or.inl ⟨by kernel_rfl, ?_⟩) (by assumption) ?_
      rotate_left
      · (intro w hSw; (try dsimp only at hSw); go_simp; all_goals with_reducible rfl)
      try simp only [Act.put, List.setIfInBounds_toArray, List.set_cons_zero, List.set_cons_succ]
      refine wpAnyZ_take (i := 15) (oi := ⟨some 35, _, _, _, _, _⟩) (v := ?_) (by kernel_rfl) (by kernel_rfl) rfl rfl (by kernel_rfl) (by kernel_rfl) (by kernel_rfl) (fun _ _ _ h => h) (Or.inl ⟨by kernel_rfl, ?_⟩) (by assumption) ?_
      rotate_left
      · (intro w hSw; (try dsimp only at hSw); go_simp; all_goals with_reducible rfl)
      try simp only [Act.put, List.setIfInBounds_toArray, List.set_cons_zero, List.set_cons_succ]
      refine wpAnyZ_take (i := 16) (oi := ⟨some 36, _, _, _, _, _⟩) (v := ?_) (by kernel_rfl) (by kernel_rfl) rfl rfl (by kernel_rfl) (by kernel_rfl) (by kernel_rfl) (fun _ _ _ h => h) (Or.inl ⟨by kernel_rfl, ?_⟩) (by assumption) ?_
      rotate_left
      · (intro w hSw; (try dsimp only at hSw); go_simp; all_goals with_reducible rfl)
      try simp only [Act.put, List.setIfInBounds_toArray, List.set_cons_zero, List.set_cons_succ]
      refine wpAnyZ_take (i := 17) (oi := ⟨some 37, _, _, _, _, _⟩) (v := ?_) (by kernel_rfl) (by kernel_rfl) rfl rfl (by kernel_rfl) (by kernel_rfl) (by kernel_rfl) (fun _ _ _ h => h) (Or.inl ⟨by kernel_rfl, ?_⟩) (by assumption) ?_
      rotate_left
      · (intro w hSw; (try dsimp only at hSw); go_simp; all_goals with_reducible rfl)
      try simp only [Act.put, List.setIfInBounds_toArray, List.set_cons_zero, List.set_cons_succ]
      refine wpAnyZ_take (i := 18) (oi := ⟨some 38, _, _, _, _, _⟩) (v := ?_) (by kernel_rfl) (by kernel_rfl) rfl rfl (by kernel_rfl) (by kernel_rfl) (by kernel_rfl) (fun _ _ _ h => h) (Or.inl ⟨by kernel_rfl, ?_⟩) (by assumption) ?_
      rotate_left
      · (intro w hSw; (try dsimp only at hSw); go_simp; all_goals with_reducible rfl)
      try simp only [Act.put, List.setIfInBounds_toArray, List.set_cons_zero, List.set_cons_succ]
      refine wpAnyZ_take (i := 19) (oi := ⟨some 39, _, _, _, _, _⟩) (v := ?_) (by kernel_rfl) (by kernel_rfl) rfl rfl (by kernel_rfl) (by kernel_rfl) (by kernel_rfl) (fun _ _ _ h => h) (Or.inl ⟨by kernel_rfl, ?_⟩) (by assumption) ?_
      rotate_left
      · (intro w hSw; (try dsimp only at hSw); go_simp; all_goals with_reducible rfl)
      try simp only [Act.put, List.setIfInBounds_toArray, List.set_cons_zero, List.set_cons_succ]
      refine wpAnyZ_take (i := 20) (oi := ⟨some 40, _, _, _, _, _⟩) (v := ?_) (by kernel_rfl) (by kernel_rfl) rfl rfl (by kernel_rfl) (by kernel_rfl) (by kernel_rfl) (fun _ _ _ h => h) (Or.inl ⟨by kernel_rfl, ?_⟩) (by assumption) ?_
      rotate_left
      · (intro w hSw; (try dsimp only at hSw); go_simp; all_goals with_reducible rfl)
      try simp only [Act.put, List.setIfInBounds_toArray, List.set_cons_zero, List.set_cons_succ]
      refine wpAnyZ_call (q := 11) (by kernel_rfl) rfl rfl (fun K hK => ?_)
      go_simp
      refine (HA1.out _).mono ?_
      rintro e v1 ⟨rfl, hv1⟩
      have hV1 : Below w2.heap.size w2 v1 := hB0.trans (hv1.mono hB0.size)
      clear hv1
      go_wp2_with fail
      refine hK.out _ _ (by exact HS.out _ hV1) (fun hHeld => ?_)
      clear hK K
      try simp only [Act.put, List.setIfInBounds_toArray, List.set_cons_zero, List.set_cons_succ]
      refine wpAnyZ_call (q := 21) (by kernel_rfl) rfl rfl (fun K hK => ?_)
      go_simp
      refine (HA2.out _).mono ?_
      rintro e v2 ⟨rfl, hv2⟩
      have hV2 : Below w2.heap.size w2 v2 := hV1.trans (hv2.mono hV1.size)
      clear hv2
      go_wp2_with fail
      refine hK.out _ _ (by exact HS.out _ hV2) (fun hHeld => ?_)
      clear hK K
      try simp only [Act.put, List.setIfInBounds_toArray, List.set_cons_zero, List.set_cons_succ]
      refine wpAnyZ_take (i := 22) (oi := ⟨some 42, _, _, _, _, _⟩) (v := ?_) (by kernel_rfl) (by kernel_rfl) rfl rfl (by kernel_rfl) (by kernel_rfl) (by kernel_rfl) (fun _ _ _ h => h) (Or.inl ⟨by kernel_rfl, ?_⟩) (by assumption) ?_
      rotate_left
      · (intro w hSw; (try dsimp only at hSw); go_simp; all_goals with_reducible rfl)
      try simp only [Act.put, List.setIfInBounds_toArray, List.set_cons_zero, List.set_cons_succ]
      refine wpAnyZ_take (i := 23) (oi := ⟨some 43, _, _, _, _, _⟩) (v := ?_) (by kernel_rfl) (by kernel_rfl) rfl rfl (by kernel_rfl) (by kernel_rfl) (by kernel_rfl) (fun _ _ _ h => h) (Or.inl ⟨by kernel_rfl, ?_⟩) (by assumption) ?_
      rotate_left
      · (intro w hSw; (try dsimp only at hSw); go_simp; all_goals with_reducible rfl)
      try simp only [Act.put, List.setIfInBounds_toArray, List.set_cons_zero, List.set_cons_succ]
      have hle : bb ≤ bb := Nat.le_refl _
      have HF3 := HF2.out.below hV2
      have HN := Lib.hid (fillF_step HF3 hkl HX.out.1 HX.out.2.1 HX.out.2.2.1 HX.out.2.2.2)
      obtain ⟨y0, g0⟩ := HF3.2.2.1 k (Nat.le_refl _) hkl 0 (by omega)
      obtain ⟨y1, g1⟩ := HF3.2.2.1 k (Nat.le_refl _) hkl 1 (by omega)
      obtain ⟨y2, g2⟩ := HF3.2.2.1 k (Nat.le_refl _) hkl 2 (by omega)
      obtain ⟨y3, g3⟩ := HF3.2.2.1 k (Nat.le_refl _) hkl 3 (by omega)
      rw [Nat.add_zero] at g0
      have gf := HF3.2.2.2
      have hB3 : Below (bb) w1 v2 := hB2.trans (hV2.mono (show bb ≤ w2.heap.size by omega))
      have HB4 := Lib.hid ((((hB3.setCell (p := ⟨bb, k * 4, none⟩) hle (.int .i64 x0)).setCell (p := ⟨bb, k * 4 + 1, none⟩) hle (.int .i64 x1)).setCell (p := ⟨bb, k * 4 + 2, none⟩) hle (.int .i64 x2)).setCell (p := ⟨bb, k * 4 + 3, none⟩) hle (.int .i64 x3))
      clear HF3 hB3
      refine wpAnyZ_last (by kernel_rfl) rfl (fun K hK => ?_)
      go_simp
      go_wp2_with fail
      refine hK.out _ _ ?_
      clear hK K
      try simp only [Act.put, List.setIfInBounds_toArray, List.set_cons_zero, List.set_cons_succ]
      go_wp2
      go_roundw
      case rel => exact ⟨k + 1, by omega, by go_num, HN, HB4.out⟩
      case measure => (simp [intOf]) <;> omega
    · have hkl2 : ¬ (k : Int) < P.length := by omega
      have hkk : k = P.length := by omega
      have HDo := HF.out
      rw [hkk] at HDo
      have HDD := Lib.hid (fillF_done HDo)
      clear hkk HDo HF
      go_wp2
      go_ret
      exact ⟨bb, rfl, by omega, HDD.out, hBw⟩
end Go.Proofs.Ytfaodlcfjhnhbaa
