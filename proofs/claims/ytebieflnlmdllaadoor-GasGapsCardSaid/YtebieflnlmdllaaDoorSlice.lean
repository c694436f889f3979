/- An argument that is a slice of gases: opened to a list, and shut again behind a call that only makes memory. -/
import Derived.Test.YtebieflnlmdllaaDoorRich
import Derived.ProofKit
import Derived.OpenShut
import Derived.Lib.SmallJoins
import Derived.Deep.Slices
import Derived.Deep.Strs
namespace Go.Proofs.YtebieflnlmdllaaDoor
open Go.ChangeShapes Go.WideShapes Go.ChangeAt Go.RowKit Go.Joins Go.Deep
set_option linter.unusedVariables false
set_option linter.unusedSimpArgs false

theorem cInt1 : Tryd.prog.cellsOf 3 = 1 := by kernel_rfl
theorem cGas2 : Tryd.prog.cellsOf 23 = 2 := by kernel_rfl
section
variable {H : Type} {enc : TypeId × Value → H} {w : World} {base : Nat} {spare : Nat → Bool} {held : Bool}
set_option maxRecDepth 100000 in
theorem gasCell {n : Nat} {cs : List Value} {x : DataW H × List MemPlace} (h : DataW.trod enc Tryd.prog w base spare held n 23 cs = some x) :
    ∃ o h : Int, cs = [.int .i64 o, .int .i64 h] ∧ x = (.agg [.lit (.int .i64 o), .lit (.int .i64 h)], []) ∧ (Lit.int .i64 o).wf = true ∧ (Lit.int .i64 h).wf = true := by
  obtain ⟨y0, y1, m, rfl, hl, q0, q1⟩ := trod_struct2 Tryd.underlying23 h
  rw [cGas2] at hl
  match cs, hl with
  | [c0, c1], _ =>
    have r0 : DataW.trod enc Tryd.prog w base spare held m 3 [c0] = some y0 := by simpa [cInt1] using q0
    have r1 : DataW.trod enc Tryd.prog w base spare held m 3 [c1] = some y1 := by simpa [cInt1] using q1
    obtain ⟨a0, e0, rfl, w0⟩ := DataW.trod_int Tryd.underlying3 r0
    obtain ⟨a1, e1, rfl, w1⟩ := DataW.trod_int Tryd.underlying3 r1
    simp at e0 e1
    subst e0 e1
    exact ⟨a0, a1, rfl, by simp, w0, w1⟩
set_option maxRecDepth 100000 in
theorem gasCell_mk {o h : Int} (w0 : (Lit.int .i64 o).wf = true) (w1 : (Lit.int .i64 h).wf = true) :
    DataW.trod enc Tryd.prog w base spare held 2 23 [.int .i64 o, .int .i64 h] = some (.agg [.lit (.int .i64 o), .lit (.int .i64 h)], []) := by
  have t0 : DataW.trod enc Tryd.prog w base spare held 1 3 [.int .i64 o] = some (.lit (.int .i64 o), []) := trod_int_mk 0 Tryd.underlying3 w0
  have t1 : DataW.trod enc Tryd.prog w base spare held 1 3 [.int .i64 h] = some (.lit (.int .i64 h), []) := trod_int_mk 0 Tryd.underlying3 w1
  exact trod_struct2_mk (n := 1) (cs := [.int .i64 o, .int .i64 h]) Tryd.underlying23 (by simp [cGas2]) (by simpa [cInt1] using t0) (by simpa [cInt1] using t1)
end
theorem cells2 {w : World} {a : Addr} {x y : Value} (h0 : w.cell? a = some x) (h1 : w.cell? (a.add 1) = some y) : w.cells? 0 a 2 = some [x, y] := by
  unfold World.cells?
  rw [if_pos (Nat.zero_le _)]
  have e0 : a.add 0 = a := by simp [Addr.add]
  simp [List.range_succ, e0, h0, h1]
set_option maxRecDepth 100000 in
theorem openGases {H : Type} {enc : TypeId × Value → H} {W : World} {r : Reach} {b0 : Nat} {v : Value} {d : DataW H} {p : List MemPlace} (hv : Value.okWide Tryd.prog W r b0 72 v) (h : DataW.Trod enc Tryd.prog W 0 (fun _ => true) true 72 v d p) :
    ∃ (P : List Gs) (A : Option Addr) (cap : Nat), v = .slice A P.length cap ∧ SlAt W A P ∧ (A = none → cap = 0) ∧ P.length ≤ cap ∧ cap ≤ maxLen ∧
      (∀ W', Below W.heap.size W W' → DataW.Trod enc Tryd.prog W' 0 (fun b => decide (b < W.heap.size)) true 72 v d p) := by
  obtain ⟨a0, len0, cap0, rfl⟩ := okWide_slice Tryd.underlying72 hv
  obtain ⟨fuel, hf⟩ := h
  rcases open_slice Tryd.underlying72 hf with ⟨hcs, hx⟩ | ⟨a, len, cap, m, n, D, Pl, hcs, hb, hl, hm, hmm, hx, hi⟩
  · simp [Value.cells] at hcs
    obtain ⟨rfl, rfl, rfl⟩ := hcs
    simp only [Prod.mk.injEq] at hx
    obtain ⟨rfl, rfl⟩ := hx
    refine ⟨[], none, 0, rfl, Or.inl rfl, fun _ => rfl, by simp, by simp, fun W' hB => ⟨1, ?_⟩⟩
    simp [Value.cells, DataW.trod, Tryd.underlying72]
  · simp [Value.cells] at hcs
    obtain ⟨rfl, rfl, rfl⟩ := hcs
    have hmc : m = cap0 := by simpa using hmm
    subst hmc
    have hg : ∀ i, i < m → ∃ g : Gs, (W.cell? (a.add (i * 2)) = some (.int .i64 g.o) ∧ W.cell? ((a.add (i * 2)).add 1) = some (.int .i64 g.h)) ∧ D i = .agg [.lit (.int .i64 g.o), .lit (.int .i64 g.h)] ∧ Pl i = [] ∧ (Lit.int .i64 g.o).wf = true ∧ (Lit.int .i64 g.h).wf = true := by
      intro i him
      obtain ⟨cs', hc, ht'⟩ := hi i him
      rw [cGas2] at hc
      obtain ⟨o, h, rfl, hx', w0, w1⟩ := gasCell ht'
      obtain ⟨_, _, hat⟩ := World.cells?_some hc
      simp only [Prod.mk.injEq] at hx'
      have g0 := hat 0 (by omega)
      have g1 := hat 1 (by omega)
      refine ⟨⟨o, h⟩, ⟨?_, ?_⟩, hx'.1, hx'.2, w0, w1⟩
      · simpa [Addr.add] using g0
      · simpa using g1
    obtain ⟨f, hF⟩ := choose_lt hg
    have hlt : ∀ i, i < m → a.block < W.heap.size := by
      intro i him
      have := World.block_lt_of_cell? _ _ (hF i him).1.1
      unfold Addr.add at this
      split at this <;> simpa using this
    have hP : ((List.range len0).map f).length = len0 := by simp
    refine ⟨(List.range len0).map f, some a, m, by rw [hP], ?_, (fun h => by cases h), by rw [hP]; exact hl, hm, ?_⟩
    · by_cases h0 : len0 = 0
      · exact Or.inl (by rw [h0]; rfl)
      · right
        obtain ⟨bk, off, spot⟩ := a
        have hs : spot = none := by
          have := World.cell?_spot (hF 0 (by omega)).1.1
          simpa [Addr.add] using this
        subst hs
        refine ⟨bk, off, rfl, hlt 0 (by omega), ?_⟩
        intro k hk
        rw [hP] at hk
        obtain ⟨⟨q0, q1⟩, _⟩ := hF k (by omega)
        have e0 : (⟨bk, off, none⟩ : Addr).add (k * 2) = ⟨bk, off + k * 2, none⟩ := by
          unfold Addr.add; split
          · rename_i hz; rw [hz]; rfl
          · rfl
        rw [e0] at q0 q1
        have e1 : (⟨bk, off + k * 2, none⟩ : Addr).add 1 = ⟨bk, off + k * 2 + 1, none⟩ := rfl
        rw [e1] at q1
        simp only [List.getElem_map, List.getElem_range]
        exact ⟨q0, q1⟩
    · intro W' hB
      simp only [Prod.mk.injEq] at hx
      obtain ⟨rfl, rfl⟩ := hx
      by_cases hsp : a.block < W.heap.size
      · have hk : ∀ i, i < m → ∃ cs n, W'.cells? 0 (a.add (i * Tryd.prog.cellsOf 23)) (Tryd.prog.cellsOf 23) = some cs ∧ DataW.trod enc Tryd.prog W' 0 (fun b => decide (b < W.heap.size)) true n 23 cs = some (D i, Pl i) := by
          intro i him
          obtain ⟨⟨q0, q1⟩, hD, hPl, w0, w1⟩ := hF i him
          rw [cGas2, hD, hPl]
          have bb : ∀ j, (a.add j).block = a.block := fun j => by unfold Addr.add; split <;> rfl
          refine ⟨[.int .i64 (f i).o, .int .i64 (f i).h], 2, cells2 ?_ ?_, gasCell_mk w0 w1⟩
          · exact (hB.cell (by rw [bb]; exact hsp)).trans q0
          · refine (hB.cell ?_).trans q1
            rw [show ((a.add (i * 2)).add 1).block = (a.add (i * 2)).block by unfold Addr.add; simp, bb]
            exact hsp
        obtain ⟨q, hq⟩ := shut_slice_whole_cells (enc := enc) (P := Tryd.prog) (w := W') (base := 0) (spare := fun b => decide (b < W.heap.size)) (held := true) Tryd.underlying72 (Nat.zero_le _) hl hm (by simpa using hsp) D Pl hk
        exact ⟨q, by simpa [Value.cells] using hq⟩
      · have hm0 : m = 0 := by
          by_cases c : m = 0
          · exact c
          · exact absurd (hlt 0 (by omega)) hsp
        subst hm0
        have hl0 : len0 = 0 := by omega
        subst hl0
        obtain ⟨q, hq⟩ := shut_slice_cells (enc := enc) (P := Tryd.prog) (w := W') (base := 0) (spare := fun b => decide (b < W.heap.size)) (held := true) (a := a) (len := 0) (cap := 0) Tryd.underlying72 (Nat.zero_le _) (Nat.le_refl _) hm (by simpa using hsp) D Pl (fun i hi => by omega)
        exact ⟨q, by simpa [Value.cells] using hq⟩
end Go.Proofs.YtebieflnlmdllaaDoor
