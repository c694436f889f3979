/- An argument that is a slice of parts: opened to a list, and shut again behind a call that only makes memory. -/
import Derived.Test.YtlhogcbodgimdaaDoorCopyP
import Derived.ProofKit
import Derived.OpenShut
import Derived.Lib.SmallJoins
import Derived.Deep.Slices
import Derived.Deep.Strs
namespace Go.Proofs.YtlhogcbodgimdaaDoor
open Go.ChangeShapes Go.WideShapes Go.ChangeAt Go.RowKit Go.Joins Go.Deep
set_option linter.unusedVariables false
set_option linter.unusedSimpArgs false

theorem cIntP : Tryd.prog.cellsOf 3 = 1 := by kernel_rfl
theorem cGasP : Tryd.prog.cellsOf 35 = 2 := by kernel_rfl
theorem cPart3 : Tryd.prog.cellsOf 37 = 3 := by kernel_rfl
section
variable {H : Type} {enc : TypeId × Value → H} {w : World} {base : Nat} {spare : Nat → Bool} {held : Bool}
set_option maxRecDepth 100000 in
theorem partCell {n : Nat} {cs : List Value} {x : DataW H × List MemPlace} (h : DataW.trod enc Tryd.prog w base spare held n 37 cs = some x) :
    ∃ o h a : Int, cs = [.int .i64 o, .int .i64 h, .int .i64 a] ∧ x = (.agg [.agg [.lit (.int .i64 o), .lit (.int .i64 h)], .lit (.int .i64 a)], []) ∧ (Lit.int .i64 o).wf = true ∧ (Lit.int .i64 h).wf = true ∧ (Lit.int .i64 a).wf = true := by
  obtain ⟨y0, y1, m, rfl, hl, q0, q1⟩ := trod_struct2 Tryd.underlying37 h
  rw [cPart3] at hl
  match cs, hl with
  | [c0, c1, c2], _ =>
    have r0 : DataW.trod enc Tryd.prog w base spare held m 35 [c0, c1] = some y0 := by simpa [cGasP] using q0
    have r1 : DataW.trod enc Tryd.prog w base spare held m 3 [c2] = some y1 := by simpa [cGasP, cIntP] using q1
    obtain ⟨z0, z1, m', rfl, hl', t0, t1⟩ := trod_struct2 Tryd.underlying35 r0
    have s0 : DataW.trod enc Tryd.prog w base spare held m' 3 [c0] = some z0 := by simpa [cIntP] using t0
    have s1 : DataW.trod enc Tryd.prog w base spare held m' 3 [c1] = some z1 := by simpa [cIntP] using t1
    obtain ⟨a0, e0, rfl, w0⟩ := DataW.trod_int Tryd.underlying3 s0
    obtain ⟨a1, e1, rfl, w1⟩ := DataW.trod_int Tryd.underlying3 s1
    obtain ⟨a2, e2, rfl, w2⟩ := DataW.trod_int Tryd.underlying3 r1
    simp at e0 e1 e2
    subst e0 e1 e2
    exact ⟨a0, a1, a2, rfl, by simp, w0, w1, w2⟩
set_option maxRecDepth 100000 in
theorem partCell_mk {o h a : Int} (w0 : (Lit.int .i64 o).wf = true) (w1 : (Lit.int .i64 h).wf = true) (w2 : (Lit.int .i64 a).wf = true) :
    DataW.trod enc Tryd.prog w base spare held 3 37 [.int .i64 o, .int .i64 h, .int .i64 a] = some (.agg [.agg [.lit (.int .i64 o), .lit (.int .i64 h)], .lit (.int .i64 a)], []) := by
  have t0 : DataW.trod enc Tryd.prog w base spare held 1 3 [.int .i64 o] = some (.lit (.int .i64 o), []) := trod_int_mk 0 Tryd.underlying3 w0
  have t1 : DataW.trod enc Tryd.prog w base spare held 1 3 [.int .i64 h] = some (.lit (.int .i64 h), []) := trod_int_mk 0 Tryd.underlying3 w1
  have t2 : DataW.trod enc Tryd.prog w base spare held 2 3 [.int .i64 a] = some (.lit (.int .i64 a), []) := trod_int_mk 1 Tryd.underlying3 w2
  have g : DataW.trod enc Tryd.prog w base spare held 2 35 [.int .i64 o, .int .i64 h] = some (.agg [.lit (.int .i64 o), .lit (.int .i64 h)], []) :=
    trod_struct2_mk (n := 1) (cs := [.int .i64 o, .int .i64 h]) Tryd.underlying35 (by simp [cGasP]) (by simpa [cIntP] using t0) (by simpa [cIntP] using t1)
  exact trod_struct2_mk (n := 2) (cs := [.int .i64 o, .int .i64 h, .int .i64 a]) Tryd.underlying37 (by simp [cPart3]) (by simpa [cGasP] using g) (by simpa [cGasP, cIntP] using t2)
end
theorem cellsP3 {w : World} {a : Addr} {x y z : Value} (h0 : w.cell? a = some x) (h1 : w.cell? (a.add 1) = some y) (h2 : w.cell? (a.add 2) = some z) : w.cells? 0 a 3 = some [x, y, z] := by
  unfold World.cells?
  rw [if_pos (Nat.zero_le _)]
  have e0 : a.add 0 = a := by simp [Addr.add]
  simp [List.range_succ, e0, h0, h1, h2]
set_option maxRecDepth 100000 in
theorem openParts {H : Type} {enc : TypeId × Value → H} {W : World} {r : Reach} {b0 : Nat} {v : Value} {d : DataW H} {p : List MemPlace} (hv : Value.okWide Tryd.prog W r b0 22 v) (h : DataW.Trod enc Tryd.prog W 0 (fun _ => true) true 22 v d p) :
    ∃ (P : List Part) (A : Option Addr) (cap : Nat), v = .slice A P.length cap ∧ PSl W A P ∧ (A = none → cap = 0) ∧ P.length ≤ cap ∧ cap ≤ maxLen ∧
      (∀ W', Below W.heap.size W W' → DataW.Trod enc Tryd.prog W' 0 (fun b => decide (b < W.heap.size)) true 22 v d p) := by
  obtain ⟨a0, len0, cap0, rfl⟩ := okWide_slice Tryd.underlying22 hv
  obtain ⟨fuel, hf⟩ := h
  rcases open_slice Tryd.underlying22 hf with ⟨hcs, hx⟩ | ⟨a, len, cap, m, n, D, Pl, hcs, hb, hl, hm, hmm, hx, hi⟩
  · simp [Value.cells] at hcs
    obtain ⟨rfl, rfl, rfl⟩ := hcs
    simp only [Prod.mk.injEq] at hx
    obtain ⟨rfl, rfl⟩ := hx
    refine ⟨[], none, 0, rfl, Or.inl rfl, fun _ => rfl, by simp, by simp, fun W' hB => ⟨1, ?_⟩⟩
    simp [Value.cells, DataW.trod, Tryd.underlying22]
  · simp [Value.cells] at hcs
    obtain ⟨rfl, rfl, rfl⟩ := hcs
    have hmc : m = cap0 := by simpa using hmm
    subst hmc
    have hg : ∀ i, i < m → ∃ g : Part, (W.cell? (a.add (i * 3)) = some (.int .i64 g.o) ∧ W.cell? ((a.add (i * 3)).add 1) = some (.int .i64 g.h) ∧ W.cell? ((a.add (i * 3)).add 2) = some (.int .i64 g.a)) ∧ D i = .agg [.agg [.lit (.int .i64 g.o), .lit (.int .i64 g.h)], .lit (.int .i64 g.a)] ∧ Pl i = [] ∧ (Lit.int .i64 g.o).wf = true ∧ (Lit.int .i64 g.h).wf = true ∧ (Lit.int .i64 g.a).wf = true := by
      intro i him
      obtain ⟨cs', hc, ht'⟩ := hi i him
      rw [cPart3] at hc
      obtain ⟨o, h, q, rfl, hx', w0, w1, w2⟩ := partCell ht'
      obtain ⟨_, _, hat⟩ := World.cells?_some hc
      simp only [Prod.mk.injEq] at hx'
      have g0 := hat 0 (by omega)
      have g1 := hat 1 (by omega)
      have g2 := hat 2 (by omega)
      refine ⟨⟨o, h, q⟩, ⟨?_, ?_, ?_⟩, hx'.1, hx'.2, w0, w1, w2⟩
      · simpa [Addr.add] using g0
      · simpa using g1
      · simpa using g2
    obtain ⟨f, hF⟩ := choose_lt hg
    have hlt : ∀ i, i < m → a.block < W.heap.size := by
      intro i him
      have := World.block_lt_of_cell? _ _ (hF i him).1.1
      unfold Addr.add at this
      split at this <;> simpa using this
    have hP : ((List.range len0).map f).length = len0 := by simp
    refine ⟨(List.range len0).map f, some a, m, by rw [hP], ?_, (fun h => by cases h), by rw [hP]; exact hl, hm, ?_⟩
    · by_cases h0 : len0 = 0
      · exact Or.inl (by rw [h0]; rfl)
      · right
        obtain ⟨bk, off, spot⟩ := a
        have hs : spot = none := by
          have := World.cell?_spot (hF 0 (by omega)).1.1
          simpa [Addr.add] using this
        subst hs
        refine ⟨bk, off, rfl, hlt 0 (by omega), ?_⟩
        intro k hk
        rw [hP] at hk
        obtain ⟨⟨q0, q1, q2⟩, _⟩ := hF k (by omega)
        have e0 : (⟨bk, off, none⟩ : Addr).add (k * 3) = ⟨bk, off + k * 3, none⟩ := by
          unfold Addr.add; split
          · rename_i hz; rw [hz]; rfl
          · rfl
        rw [e0] at q0 q1 q2
        have e1 : (⟨bk, off + k * 3, none⟩ : Addr).add 1 = ⟨bk, off + k * 3 + 1, none⟩ := rfl
        rw [e1] at q1
        have e2 : (⟨bk, off + k * 3, none⟩ : Addr).add 2 = ⟨bk, off + k * 3 + 2, none⟩ := rfl
        rw [e2] at q2
        simp only [List.getElem_map, List.getElem_range]
        exact ⟨q0, q1, q2⟩
    · intro W' hB
      simp only [Prod.mk.injEq] at hx
      obtain ⟨rfl, rfl⟩ := hx
      by_cases hsp : a.block < W.heap.size
      · have hk : ∀ i, i < m → ∃ cs n, W'.cells? 0 (a.add (i * Tryd.prog.cellsOf 37)) (Tryd.prog.cellsOf 37) = some cs ∧ DataW.trod enc Tryd.prog W' 0 (fun b => decide (b < W.heap.size)) true n 37 cs = some (D i, Pl i) := by
          intro i him
          obtain ⟨⟨q0, q1, q2⟩, hD, hPl, w0, w1, w2⟩ := hF i him
          rw [cPart3, hD, hPl]
          have bb : ∀ j, (a.add j).block = a.block := fun j => by unfold Addr.add; split <;> rfl
          refine ⟨[.int .i64 (f i).o, .int .i64 (f i).h, .int .i64 (f i).a], 3, cellsP3 ?_ ?_ ?_, partCell_mk w0 w1 w2⟩
          · exact (hB.cell (by rw [bb]; exact hsp)).trans q0
          · refine (hB.cell ?_).trans q1
            rw [show ((a.add (i * 3)).add 1).block = (a.add (i * 3)).block by unfold Addr.add; simp, bb]
            exact hsp
          · refine (hB.cell ?_).trans q2
            rw [show ((a.add (i * 3)).add 2).block = (a.add (i * 3)).block by unfold Addr.add; simp, bb]
            exact hsp
        obtain ⟨q, hq⟩ := shut_slice_whole_cells (enc := enc) (P := Tryd.prog) (w := W') (base := 0) (spare := fun b => decide (b < W.heap.size)) (held := true) Tryd.underlying22 (Nat.zero_le _) hl hm (by simpa using hsp) D Pl hk
        exact ⟨q, by simpa [Value.cells] using hq⟩
      · have hm0 : m = 0 := by
          by_cases c : m = 0
          · exact c
          · exact absurd (hlt 0 (by omega)) hsp
        subst hm0
        have hl0 : len0 = 0 := by omega
        subst hl0
        obtain ⟨q, hq⟩ := shut_slice_cells (enc := enc) (P := Tryd.prog) (w := W') (base := 0) (spare := fun b => decide (b < W.heap.size)) (held := true) (a := a) (len := 0) (cap := 0) Tryd.underlying22 (Nat.zero_le _) (Nat.le_refl _) hm (by simpa using hsp) D Pl (fun i hi => by omega)
        exact ⟨q, by simpa [Value.cells] using hq⟩
end Go.Proofs.YtlhogcbodgimdaaDoor
