/- Gases, legs of plans and plans as arguments: opened to lists, and shut again behind a call that only makes memory. -/
import Derived.Test.YtchfhhmmjioajaaMPlans
import Derived.ProofKit
import Derived.OpenShut
import Derived.Lib.SmallJoins
import Derived.Deep.Slices
import Derived.Deep.Strs
namespace Go.Proofs.Ytchfhhmmjioajaa
open Go.ChangeShapes Go.WideShapes Go.ChangeAt Go.RowKit Go.Joins Go.Deep
set_option linter.unusedVariables false
set_option linter.unusedSimpArgs false
theorem cIntP : Try.prog.cellsOf 3 = 1 := by kernel_rfl
theorem cStrP : Try.prog.cellsOf 9 = 1 := by kernel_rfl
theorem gpCell_c : Try.prog.cellsOf 38 = 2 := by kernel_rfl
section
variable {H : Type} {enc : TypeId × Value → H} {w : World} {base : Nat} {spare : Nat → Bool} {held : Bool}
set_option maxRecDepth 100000 in
theorem gpCell {n : Nat} {cs : List Value} {x : DataW H × List MemPlace} (h : DataW.trod enc Try.prog w base spare held n 38 cs = some x) :
    ∃ o h : Int, cs = [.int .i64 o, .int .i64 h] ∧ x = (.agg [.lit (.int .i64 o), .lit (.int .i64 h)], []) ∧ (Lit.int .i64 o).wf = true ∧ (Lit.int .i64 h).wf = true := by
  obtain ⟨y0, y1, m, rfl, hl, q0, q1⟩ := trod_struct2 Try.underlying38 h
  rw [gpCell_c] at hl
  match cs, hl with
  | [c0, c1], _ =>
    have r0 : DataW.trod enc Try.prog w base spare held m 3 [c0] = some y0 := by simpa [cIntP] using q0
    have r1 : DataW.trod enc Try.prog w base spare held m 3 [c1] = some y1 := by simpa [cIntP] using q1
    obtain ⟨a0, e0, rfl, w0⟩ := DataW.trod_int Try.underlying3 r0
    obtain ⟨a1, e1, rfl, w1⟩ := DataW.trod_int Try.underlying3 r1
    simp at e0 e1
    subst e0 e1
    exact ⟨a0, a1, rfl, by simp, w0, w1⟩
set_option maxRecDepth 100000 in
theorem gpCell_mk {o h : Int} (w0 : (Lit.int .i64 o).wf = true) (w1 : (Lit.int .i64 h).wf = true) :
    DataW.trod enc Try.prog w base spare held 2 38 [.int .i64 o, .int .i64 h] = some (.agg [.lit (.int .i64 o), .lit (.int .i64 h)], []) := by
  have t0 : DataW.trod enc Try.prog w base spare held 1 3 [.int .i64 o] = some (.lit (.int .i64 o), []) := trod_int_mk 0 Try.underlying3 w0
  have t1 : DataW.trod enc Try.prog w base spare held 1 3 [.int .i64 h] = some (.lit (.int .i64 h), []) := trod_int_mk 0 Try.underlying3 w1
  exact trod_struct2_mk (n := 1) (cs := [.int .i64 o, .int .i64 h]) Try.underlying38 (by simp [gpCell_c]) (by simpa [cIntP] using t0) (by simpa [cIntP] using t1)
end
theorem gpCell_cs {w : World} {a : Addr} {x y : Value} (h0 : w.cell? a = some x) (h1 : w.cell? (a.add 1) = some y) : w.cells? 0 a 2 = some [x, y] := by
  unfold World.cells?
  rw [if_pos (Nat.zero_le _)]
  have e0 : a.add 0 = a := by simp [Addr.add]
  simp [List.range_succ, e0, h0, h1]
theorem dlCell_c : Try.prog.cellsOf 163 = 3 := by kernel_rfl
section
variable {H : Type} {enc : TypeId × Value → H} {w : World} {base : Nat} {spare : Nat → Bool} {held : Bool}
set_option maxRecDepth 100000 in
theorem dlCell {n : Nat} {cs : List Value} {x : DataW H × List MemPlace} (h : DataW.trod enc Try.prog w base spare held n 163 cs = some x) :
    ∃ s d g : Int, cs = [.int .i64 s, .int .i64 d, .int .i64 g] ∧ x = (.agg [.lit (.int .i64 s), .lit (.int .i64 d), .lit (.int .i64 g)], []) ∧ (Lit.int .i64 s).wf = true ∧ (Lit.int .i64 d).wf = true ∧ (Lit.int .i64 g).wf = true := by
  obtain ⟨y0, y1, y2, m, rfl, hl, q0, q1, q2⟩ := trod_struct3 Try.underlying163 h
  rw [dlCell_c] at hl
  match cs, hl with
  | [c0, c1, c2], _ =>
    have r0 : DataW.trod enc Try.prog w base spare held m 3 [c0] = some y0 := by simpa [cIntP] using q0
    have r1 : DataW.trod enc Try.prog w base spare held m 3 [c1] = some y1 := by simpa [cIntP] using q1
    have r2 : DataW.trod enc Try.prog w base spare held m 3 [c2] = some y2 := by simpa [cIntP] using q2
    obtain ⟨a0, e0, rfl, w0⟩ := DataW.trod_int Try.underlying3 r0
    obtain ⟨a1, e1, rfl, w1⟩ := DataW.trod_int Try.underlying3 r1
    obtain ⟨a2, e2, rfl, w2⟩ := DataW.trod_int Try.underlying3 r2
    simp at e0 e1 e2
    subst e0 e1 e2
    exact ⟨a0, a1, a2, rfl, by simp, w0, w1, w2⟩
set_option maxRecDepth 100000 in
theorem dlCell_mk {s d g : Int} (w0 : (Lit.int .i64 s).wf = true) (w1 : (Lit.int .i64 d).wf = true) (w2 : (Lit.int .i64 g).wf = true) :
    DataW.trod enc Try.prog w base spare held 2 163 [.int .i64 s, .int .i64 d, .int .i64 g] = some (.agg [.lit (.int .i64 s), .lit (.int .i64 d), .lit (.int .i64 g)], []) := by
  have t0 : DataW.trod enc Try.prog w base spare held 1 3 [.int .i64 s] = some (.lit (.int .i64 s), []) := trod_int_mk 0 Try.underlying3 w0
  have t1 : DataW.trod enc Try.prog w base spare held 1 3 [.int .i64 d] = some (.lit (.int .i64 d), []) := trod_int_mk 0 Try.underlying3 w1
  have t2 : DataW.trod enc Try.prog w base spare held 1 3 [.int .i64 g] = some (.lit (.int .i64 g), []) := trod_int_mk 0 Try.underlying3 w2
  exact trod_struct3_mk (n := 1) (cs := [.int .i64 s, .int .i64 d, .int .i64 g]) Try.underlying163 (by simp [dlCell_c]) (by simpa [cIntP] using t0) (by simpa [cIntP] using t1) (by simpa [cIntP] using t2)
end
theorem dlCell_cs {w : World} {a : Addr} {x y z : Value} (h0 : w.cell? a = some x) (h1 : w.cell? (a.add 1) = some y) (h2 : w.cell? (a.add 2) = some z) : w.cells? 0 a 3 = some [x, y, z] := by
  unfold World.cells?
  rw [if_pos (Nat.zero_le _)]
  have e0 : a.add 0 = a := by simp [Addr.add]
  simp [List.range_succ, e0, h0, h1, h2]
set_option maxRecDepth 100000 in
theorem openGps {H : Type} {enc : TypeId × Value → H} {W : World} {v : Value} {d : DataW H} {p : List MemPlace} (hv : ∃ a l c, v = .slice a l c) (h : DataW.Trod enc Try.prog W 0 (fun _ => true) true 103 v d p) :
    ∃ (P : List Gp) (A : Option Addr) (cap : Nat), v = .slice A P.length cap ∧ SlGp W A P ∧ (A = none → cap = 0) ∧ P.length ≤ cap ∧ cap ≤ maxLen ∧
      (∀ W', Below W.heap.size W W' → DataW.Trod enc Try.prog W' 0 (fun b => decide (b < W.heap.size)) true 103 v d p) := by
  obtain ⟨a0, len0, cap0, rfl⟩ := hv
  obtain ⟨fuel, hf⟩ := h
  rcases open_slice Try.underlying103 hf with ⟨hcs, hx⟩ | ⟨a, len, cap, m, n, D, Pl, hcs, hb, hl, hm, hmm, hx, hi⟩
  · simp [Value.cells] at hcs
    obtain ⟨rfl, rfl, rfl⟩ := hcs
    simp only [Prod.mk.injEq] at hx
    obtain ⟨rfl, rfl⟩ := hx
    refine ⟨[], none, 0, rfl, Or.inl rfl, fun _ => rfl, by simp, by simp, fun W' hB => ⟨1, ?_⟩⟩
    simp [Value.cells, DataW.trod, Try.underlying103]
  · simp [Value.cells] at hcs
    obtain ⟨rfl, rfl, rfl⟩ := hcs
    have hmc : m = cap0 := by simpa using hmm
    subst hmc
    have hg : ∀ i, i < m → ∃ g : Gp, (W.cell? (a.add (i * 2)) = some (.int .i64 g.o) ∧ W.cell? ((a.add (i * 2)).add 1) = some (.int .i64 g.h)) ∧ D i = .agg [.lit (.int .i64 g.o), .lit (.int .i64 g.h)] ∧ Pl i = [] ∧ (Lit.int .i64 g.o).wf = true ∧ (Lit.int .i64 g.h).wf = true := by
      intro i him
      obtain ⟨cs', hc, ht'⟩ := hi i him
      rw [gpCell_c] at hc
      obtain ⟨u0, u1, rfl, hx', w0, w1⟩ := gpCell ht'
      obtain ⟨_, _, hat⟩ := World.cells?_some hc
      simp only [Prod.mk.injEq] at hx'
      have g0 := hat 0 (by omega)
      have g1 := hat 1 (by omega)
      refine ⟨⟨u0, u1⟩, ⟨?_, ?_⟩, hx'.1, hx'.2, w0, w1⟩
      · simpa [Addr.add] using g0
      · simpa using g1
    obtain ⟨f, hF⟩ := choose_lt hg
    have hlt : ∀ i, i < m → a.block < W.heap.size := by
      intro i him
      have := World.block_lt_of_cell? _ _ (hF i him).1.1
      unfold Addr.add at this
      split at this <;> simpa using this
    have hP : ((List.range len0).map f).length = len0 := by simp
    refine ⟨(List.range len0).map f, some a, m, by rw [hP], ?_, (fun h => by cases h), by rw [hP]; exact hl, hm, ?_⟩
    · by_cases h0 : len0 = 0
      · exact Or.inl (by rw [h0]; rfl)
      · right
        obtain ⟨bk, off, spot⟩ := a
        have hs : spot = none := by
          have := World.cell?_spot (hF 0 (by omega)).1.1
          simpa [Addr.add] using this
        subst hs
        refine ⟨bk, off, rfl, hlt 0 (by omega), ?_⟩
        intro k hk
        rw [hP] at hk
        obtain ⟨⟨q0, q1⟩, _⟩ := hF k (by omega)
        have e0 : (⟨bk, off, none⟩ : Addr).add (k * 2) = ⟨bk, off + k * 2, none⟩ := by
          unfold Addr.add; split
          · rename_i hz; rw [hz]; rfl
          · rfl
        rw [e0] at q0 q1
        have e1 : (⟨bk, off + k * 2, none⟩ : Addr).add 1 = ⟨bk, off + k * 2 + 1, none⟩ := rfl
        rw [e1] at q1
        simp only [List.getElem_map, List.getElem_range]
        exact ⟨q0, q1⟩
    · intro W' hB
      simp only [Prod.mk.injEq] at hx
      obtain ⟨rfl, rfl⟩ := hx
      by_cases hsp : a.block < W.heap.size
      · have hk : ∀ i, i < m → ∃ cs n, W'.cells? 0 (a.add (i * Try.prog.cellsOf 38)) (Try.prog.cellsOf 38) = some cs ∧ DataW.trod enc Try.prog W' 0 (fun b => decide (b < W.heap.size)) true n 38 cs = some (D i, Pl i) := by
          intro i him
          obtain ⟨⟨q0, q1⟩, hD, hPl, w0, w1⟩ := hF i him
          rw [gpCell_c, hD, hPl]
          have bb : ∀ j, (a.add j).block = a.block := fun j => by unfold Addr.add; split <;> rfl
          refine ⟨[.int .i64 (f i).o, .int .i64 (f i).h], 2, gpCell_cs ?_ ?_, gpCell_mk w0 w1⟩
          · exact (hB.cell (by rw [bb]; exact hsp)).trans q0
          · refine (hB.cell ?_).trans q1
            rw [show ((a.add (i * 2)).add 1).block = (a.add (i * 2)).block by unfold Addr.add; simp, bb]
            exact hsp
        obtain ⟨q, hq⟩ := shut_slice_whole_cells (enc := enc) (P := Try.prog) (w := W') (base := 0) (spare := fun b => decide (b < W.heap.size)) (held := true) Try.underlying103 (Nat.zero_le _) hl hm (by simpa using hsp) D Pl hk
        exact ⟨q, by simpa [Value.cells] using hq⟩
      · have hm0 : m = 0 := by
          by_cases c : m = 0
          · exact c
          · exact absurd (hlt 0 (by omega)) hsp
        subst hm0
        have hl0 : len0 = 0 := by omega
        subst hl0
        obtain ⟨q, hq⟩ := shut_slice_cells (enc := enc) (P := Try.prog) (w := W') (base := 0) (spare := fun b => decide (b < W.heap.size)) (held := true) (a := a) (len := 0) (cap := 0) Try.underlying103 (Nat.zero_le _) (Nat.le_refl _) hm (by simpa using hsp) D Pl (fun i hi => by omega)
        exact ⟨q, by simpa [Value.cells] using hq⟩
set_option maxRecDepth 100000 in
theorem openDls {H : Type} {enc : TypeId × Value → H} {W : World} {v : Value} {d : DataW H} {p : List MemPlace} (hv : ∃ a l c, v = .slice a l c) (h : DataW.Trod enc Try.prog W 0 (fun _ => true) true 104 v d p) :
    ∃ (P : List Dl) (A : Option Addr) (cap : Nat), v = .slice A P.length cap ∧ SlDl W A P ∧ (A = none → cap = 0) ∧ P.length ≤ cap ∧ cap ≤ maxLen ∧
      (∀ W', Below W.heap.size W W' → DataW.Trod enc Try.prog W' 0 (fun b => decide (b < W.heap.size)) true 104 v d p) := by
  obtain ⟨a0, len0, cap0, rfl⟩ := hv
  obtain ⟨fuel, hf⟩ := h
  rcases open_slice Try.underlying104 hf with ⟨hcs, hx⟩ | ⟨a, len, cap, m, n, D, Pl, hcs, hb, hl, hm, hmm, hx, hi⟩
  · simp [Value.cells] at hcs
    obtain ⟨rfl, rfl, rfl⟩ := hcs
    simp only [Prod.mk.injEq] at hx
    obtain ⟨rfl, rfl⟩ := hx
    refine ⟨[], none, 0, rfl, Or.inl rfl, fun _ => rfl, by simp, by simp, fun W' hB => ⟨1, ?_⟩⟩
    simp [Value.cells, DataW.trod, Try.underlying104]
  · simp [Value.cells] at hcs
    obtain ⟨rfl, rfl, rfl⟩ := hcs
    have hmc : m = cap0 := by simpa using hmm
    subst hmc
    have hg : ∀ i, i < m → ∃ g : Dl, (W.cell? (a.add (i * 3)) = some (.int .i64 g.s) ∧ W.cell? ((a.add (i * 3)).add 1) = some (.int .i64 g.d) ∧ W.cell? ((a.add (i * 3)).add 2) = some (.int .i64 g.g)) ∧ D i = .agg [.lit (.int .i64 g.s), .lit (.int .i64 g.d), .lit (.int .i64 g.g)] ∧ Pl i = [] ∧ (Lit.int .i64 g.s).wf = true ∧ (Lit.int .i64 g.d).wf = true ∧ (Lit.int .i64 g.g).wf = true := by
      intro i him
      obtain ⟨cs', hc, ht'⟩ := hi i him
      rw [dlCell_c] at hc
      obtain ⟨u0, u1, u2, rfl, hx', w0, w1, w2⟩ := dlCell ht'
      obtain ⟨_, _, hat⟩ := World.cells?_some hc
      simp only [Prod.mk.injEq] at hx'
      have g0 := hat 0 (by omega)
      have g1 := hat 1 (by omega)
      have g2 := hat 2 (by omega)
      refine ⟨⟨u0, u1, u2⟩, ⟨?_, ?_, ?_⟩, hx'.1, hx'.2, w0, w1, w2⟩
      · simpa [Addr.add] using g0
      · simpa using g1
      · simpa using g2
    obtain ⟨f, hF⟩ := choose_lt hg
    have hlt : ∀ i, i < m → a.block < W.heap.size := by
      intro i him
      have := World.block_lt_of_cell? _ _ (hF i him).1.1
      unfold Addr.add at this
      split at this <;> simpa using this
    have hP : ((List.range len0).map f).length = len0 := by simp
    refine ⟨(List.range len0).map f, some a, m, by rw [hP], ?_, (fun h => by cases h), by rw [hP]; exact hl, hm, ?_⟩
    · by_cases h0 : len0 = 0
      · exact Or.inl (by rw [h0]; rfl)
      · right
        obtain ⟨bk, off, spot⟩ := a
        have hs : spot = none := by
          have := World.cell?_spot (hF 0 (by omega)).1.1
          simpa [Addr.add] using this
        subst hs
        refine ⟨bk, off, rfl, hlt 0 (by omega), ?_⟩
        intro k hk
        rw [hP] at hk
        obtain ⟨⟨q0, q1, q2⟩, _⟩ := hF k (by omega)
        have e0 : (⟨bk, off, none⟩ : Addr).add (k * 3) = ⟨bk, off + k * 3, none⟩ := by
          unfold Addr.add; split
          · rename_i hz; rw [hz]; rfl
          · rfl
        rw [e0] at q0 q1 q2
        have e1 : (⟨bk, off + k * 3, none⟩ : Addr).add 1 = ⟨bk, off + k * 3 + 1, none⟩ := rfl
        rw [e1] at q1
        have e2 : (⟨bk, off + k * 3, none⟩ : Addr).add 2 = ⟨bk, off + k * 3 + 2, none⟩ := rfl
        rw [e2] at q2
        simp only [List.getElem_map, List.getElem_range]
        exact ⟨q0, q1, q2⟩
    · intro W' hB
      simp only [Prod.mk.injEq] at hx
      obtain ⟨rfl, rfl⟩ := hx
      by_cases hsp : a.block < W.heap.size
      · have hk : ∀ i, i < m → ∃ cs n, W'.cells? 0 (a.add (i * Try.prog.cellsOf 163)) (Try.prog.cellsOf 163) = some cs ∧ DataW.trod enc Try.prog W' 0 (fun b => decide (b < W.heap.size)) true n 163 cs = some (D i, Pl i) := by
          intro i him
          obtain ⟨⟨q0, q1, q2⟩, hD, hPl, w0, w1, w2⟩ := hF i him
          rw [dlCell_c, hD, hPl]
          have bb : ∀ j, (a.add j).block = a.block := fun j => by unfold Addr.add; split <;> rfl
          refine ⟨[.int .i64 (f i).s, .int .i64 (f i).d, .int .i64 (f i).g], 2, dlCell_cs ?_ ?_ ?_, dlCell_mk w0 w1 w2⟩
          · exact (hB.cell (by rw [bb]; exact hsp)).trans q0
          · refine (hB.cell ?_).trans q1
            rw [show ((a.add (i * 3)).add 1).block = (a.add (i * 3)).block by unfold Addr.add; simp, bb]
            exact hsp
          · refine (hB.cell ?_).trans q2
            rw [show ((a.add (i * 3)).add 2).block = (a.add (i * 3)).block by unfold Addr.add; simp, bb]
            exact hsp
        obtain ⟨q, hq⟩ := shut_slice_whole_cells (enc := enc) (P := Try.prog) (w := W') (base := 0) (spare := fun b => decide (b < W.heap.size)) (held := true) Try.underlying104 (Nat.zero_le _) hl hm (by simpa using hsp) D Pl hk
        exact ⟨q, by simpa [Value.cells] using hq⟩
      · have hm0 : m = 0 := by
          by_cases c : m = 0
          · exact c
          · exact absurd (hlt 0 (by omega)) hsp
        subst hm0
        have hl0 : len0 = 0 := by omega
        subst hl0
        obtain ⟨q, hq⟩ := shut_slice_cells (enc := enc) (P := Try.prog) (w := W') (base := 0) (spare := fun b => decide (b < W.heap.size)) (held := true) (a := a) (len := 0) (cap := 0) Try.underlying104 (Nat.zero_le _) (Nat.le_refl _) hm (by simpa using hsp) D Pl (fun i hi => by omega)
        exact ⟨q, by simpa [Value.cells] using hq⟩
theorem cPlan4 : Try.prog.cellsOf 106 = 4 := by kernel_rfl
theorem cSlG1 : Try.prog.cellsOf 103 = 1 := by kernel_rfl
theorem cSlD1 : Try.prog.cellsOf 104 = 1 := by kernel_rfl
set_option maxRecDepth 100000 in
theorem openPlan {H : Type} {enc : TypeId × Value → H} {W : World} {r : Reach} {b0 : Nat} {v : Value} {d : DataW H} {p : List MemPlace} (hv : Value.okWide Try.prog W r b0 106 v) (h : DataW.Trod enc Try.prog W 0 (fun _ => true) true 106 v d p) :
    ∃ (bs : ByteArray) (su : Int) (G : List Gp) (A : Option Addr) (cap : Nat) (L : List Dl) (B : Option Addr) (cap' : Nat), v = .agg #[.string bs, .int .i64 su, .slice A G.length cap, .slice B L.length cap'] ∧ bs.size ≤ maxLen ∧
      (SlGp W A G ∧ (A = none → cap = 0) ∧ G.length ≤ cap ∧ cap ≤ maxLen) ∧ (SlDl W B L ∧ (B = none → cap' = 0) ∧ L.length ≤ cap' ∧ cap' ≤ maxLen) ∧
      (∀ W', Below W.heap.size W W' → DataW.Trod enc Try.prog W' 0 (fun b => decide (b < W.heap.size)) true 106 v d p) := by
  obtain ⟨cs, rfl, hsz⟩ := okWide_struct Try.underlying106 hv
  rw [cPlan4] at hsz
  obtain ⟨fuel, hf⟩ := h
  obtain ⟨y0, y1, y2, y3, m, hx, hl, q0, q1, q2, q3⟩ := trod_struct4 Try.underlying106 hf
  obtain ⟨l⟩ := cs
  match l, hsz with
  | [c0, c1, c2, c3], _ =>
    have r0 : DataW.trod enc Try.prog W 0 (fun _ => true) true m 9 [c0] = some y0 := by simpa [cStrP, Value.cells] using q0
    have r1 : DataW.trod enc Try.prog W 0 (fun _ => true) true m 3 [c1] = some y1 := by simpa [cIntP, Value.cells] using q1
    have r2 : DataW.trod enc Try.prog W 0 (fun _ => true) true m 103 [c2] = some y2 := by simpa [cSlG1, Value.cells] using q2
    have r3 : DataW.trod enc Try.prog W 0 (fun _ => true) true m 104 [c3] = some y3 := by simpa [cSlD1, Value.cells] using q3
    obtain ⟨bs, e0, hy0, w0⟩ := DataW.trod_string Try.underlying9 r0
    obtain ⟨su, e1, hy1, w1⟩ := DataW.trod_int Try.underlying3 r1
    obtain ⟨a2, l2, k2, e2⟩ := slice_form Try.underlying103 r2
    obtain ⟨a3, l3, k3, e3⟩ := slice_form Try.underlying104 r3
    simp only [List.cons.injEq, and_true] at e0 e1 e2 e3
    obtain ⟨G, A, cap, hG, sG, nG, leG, mG, shG⟩ := openGps (enc := enc) (v := c2) (d := y2.1) (p := y2.2) ⟨a2, l2, k2, e2⟩ ⟨m, by rw [e2] at r2 ⊢; simpa [Value.cells] using r2⟩
    obtain ⟨L, B, cap', hL, sL, nL, leL, mL, shL⟩ := openDls (enc := enc) (v := c3) (d := y3.1) (p := y3.2) ⟨a3, l3, k3, e3⟩ ⟨m, by rw [e3] at r3 ⊢; simpa [Value.cells] using r3⟩
    subst e0 e1 hG hL
    refine ⟨bs, su, G, A, cap, L, B, cap', rfl, w0, ⟨sG, nG, leG, mG⟩, ⟨sL, nL, leL, mL⟩, fun W' hB => ?_⟩
    obtain ⟨n2, g2⟩ := shG W' hB
    obtain ⟨n3, g3⟩ := shL W' hB
    obtain ⟨n0, g0⟩ := shut_string_cell (enc := enc) (P := Try.prog) (w := W') (base := 0) (spare := fun b => decide (b < W.heap.size)) (held := true) Try.underlying9 w0
    have g1 : DataW.trod enc Try.prog W' 0 (fun b => decide (b < W.heap.size)) true 1 3 [.int .i64 su] = some y1 := by rw [hy1]; exact trod_int_mk 0 Try.underlying3 w1
    have M : ∃ M, n0 ≤ M ∧ n2 ≤ M ∧ n3 ≤ M ∧ 1 ≤ M := ⟨n0 + n2 + n3 + 1, by omega, by omega, by omega, by omega⟩
    obtain ⟨M, m0, m2, m3, m1⟩ := M
    have f0 := DataW.trod_le m0 g0
    have f1 := DataW.trod_le m1 g1
    have f2 := DataW.trod_le m2 g2
    have f3 := DataW.trod_le m3 g3
    rw [← hy0] at f0
    refine ⟨M + 1, ?_⟩
    have := trod_struct4_mk (enc := enc) (w := W') (base := 0) (spare := fun b => decide (b < W.heap.size)) (held := true) (n := M) (y0 := y0) (y1 := y1) (y2 := y2) (y3 := y3) (cs := [.string bs, .int .i64 su, .slice A G.length cap, .slice B L.length cap']) Try.underlying106 (by simp [cPlan4])
      (by simpa [cStrP, Value.cells] using f0) (by simpa [cIntP, Value.cells] using f1) (by simpa [cSlG1, Value.cells] using f2) (by simpa [cSlD1, Value.cells] using f3)
    rw [hx]
    simpa [Value.cells] using this
end Go.Proofs.Ytchfhhmmjioajaa
