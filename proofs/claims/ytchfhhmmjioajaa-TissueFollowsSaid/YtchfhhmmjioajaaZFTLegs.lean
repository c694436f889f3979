import Derived.Test.YtchfhhmmjioajaaZFMPlans
import Derived.Test.YtchfhhmmjioajaaZFMDive
import Derived.ProofKit
import Derived.OpenShut
import Derived.Lib.SmallJoins
import Derived.Deep.Slices
import Derived.Deep.Strs
namespace Go.Proofs.Ytchfhhmmjioajaa
open Go.ChangeShapes Go.WideShapes Go.ChangeAt Go.RowKit Go.Joins Go.Deep
set_option linter.unusedVariables false
set_option linter.unusedSimpArgs false
section
variable {H : Type} {enc : TypeId × Value → H} {w : World} {base : Nat} {spare : Nat → Bool} {held : Bool}
set_option maxRecDepth 100000 in
theorem legCells {n : Nat} {cs : List Value} {x : DataW H × List MemPlace} (h : DataW.trod enc Try.prog w base spare held n 55 cs = some x) :
    ∃ a b c o p : Int, cs = [.int .i64 a, .int .i64 b, .int .i64 c, .int .i64 o, .int .i64 p] ∧ x = (.agg [.lit (.int .i64 a), .lit (.int .i64 b), .lit (.int .i64 c), .agg [.lit (.int .i64 o), .lit (.int .i64 p)]], []) ∧ (Lit.int .i64 a).wf = true ∧ (Lit.int .i64 b).wf = true ∧ (Lit.int .i64 c).wf = true ∧ (Lit.int .i64 o).wf = true ∧ (Lit.int .i64 p).wf = true := by
  have h' := h
  obtain ⟨y0, y1, y2, y3, m, _, hl, q0, q1, q2, q3⟩ := trod_struct4 Try.underlying55 h
  rw [cLeg5] at hl
  match cs, hl with
  | [c0, c1, c2, c3, c4], _ =>
    obtain ⟨a, b, c, o, p, rfl, rfl, rfl, rfl, rfl, hx, w0, w1, w2, w3, w4⟩ := legCell h'
    exact ⟨a, b, c, o, p, rfl, hx, w0, w1, w2, w3, w4⟩
end
theorem cellsL5 {w : World} {a : Addr} {x y z u v : Value} (h0 : w.cell? a = some x) (h1 : w.cell? (a.add 1) = some y) (h2 : w.cell? (a.add 2) = some z) (h3 : w.cell? (a.add 3) = some u) (h4 : w.cell? (a.add 4) = some v) : w.cells? 0 a 5 = some [x, y, z, u, v] := by
  unfold World.cells?
  rw [if_pos (Nat.zero_le _)]
  have e0 : a.add 0 = a := by simp [Addr.add]
  simp [List.range_succ, e0, h0, h1, h2, h3, h4]
set_option maxRecDepth 100000 in
theorem openLegs {H : Type} {enc : TypeId × Value → H} {W : World} {r : Reach} {b0 : Nat} {v : Value} {d : DataW H} {p : List MemPlace} (hv : Value.okWide Try.prog W r b0 69 v) (h : DataW.Trod enc Try.prog W 0 (fun _ => true) true 69 v d p) :
    ∃ (P : List Tl) (A : Option Addr) (cap : Nat), v = .slice A P.length cap ∧ SlTl W A P ∧ (A = none → cap = 0) ∧ P.length ≤ cap ∧ cap ≤ maxLen ∧
      (∀ W', Below W.heap.size W W' → DataW.Trod enc Try.prog W' 0 (fun b => decide (b < W.heap.size)) true 69 v d p) := by
  obtain ⟨a0, len0, cap0, rfl⟩ := okWide_slice Try.underlying69 hv
  obtain ⟨fuel, hf⟩ := h
  rcases open_slice Try.underlying69 hf with ⟨hcs, hx⟩ | ⟨a, len, cap, m, n, D, Pl, hcs, hb, hl, hm, hmm, hx, hi⟩
  · simp [Value.cells] at hcs
    obtain ⟨rfl, rfl, rfl⟩ := hcs
    simp only [Prod.mk.injEq] at hx
    obtain ⟨rfl, rfl⟩ := hx
    refine ⟨[], none, 0, rfl, Or.inl rfl, fun _ => rfl, by simp, by simp, fun W' hB => ⟨1, ?_⟩⟩
    simp [Value.cells, DataW.trod, Try.underlying69]
  · simp [Value.cells] at hcs
    obtain ⟨rfl, rfl, rfl⟩ := hcs
    have hmc : m = cap0 := by simpa using hmm
    subst hmc
    have hg : ∀ i, i < m → ∃ g : Tl, (W.cell? (a.add (i * 5)) = some (.int .i64 g.f) ∧ W.cell? ((a.add (i * 5)).add 1) = some (.int .i64 g.t) ∧ W.cell? ((a.add (i * 5)).add 2) = some (.int .i64 g.s) ∧ W.cell? ((a.add (i * 5)).add 3) = some (.int .i64 g.o) ∧ W.cell? ((a.add (i * 5)).add 4) = some (.int .i64 g.h)) ∧ D i = .agg [.lit (.int .i64 g.f), .lit (.int .i64 g.t), .lit (.int .i64 g.s), .agg [.lit (.int .i64 g.o), .lit (.int .i64 g.h)]] ∧ Pl i = [] ∧ (Lit.int .i64 g.f).wf = true ∧ (Lit.int .i64 g.t).wf = true ∧ (Lit.int .i64 g.s).wf = true ∧ (Lit.int .i64 g.o).wf = true ∧ (Lit.int .i64 g.h).wf = true := by
      intro i him
      obtain ⟨cs', hc, ht'⟩ := hi i him
      rw [cLeg5] at hc
      obtain ⟨xa, xb, xc, xd, xe, rfl, hx', w0, w1, w2, w3, w4⟩ := legCells ht'
      obtain ⟨_, _, hat⟩ := World.cells?_some hc
      simp only [Prod.mk.injEq] at hx'
      have g0 := hat 0 (by omega)
      have g1 := hat 1 (by omega)
      have g2 := hat 2 (by omega)
      have g3 := hat 3 (by omega)
      have g4 := hat 4 (by omega)
      refine ⟨⟨xa, xb, xc, xd, xe⟩, ⟨?_, ?_, ?_, ?_, ?_⟩, hx'.1, hx'.2, w0, w1, w2, w3, w4⟩
      · simpa [Addr.add] using g0
      · simpa using g1
      · simpa using g2
      · simpa using g3
      · simpa using g4
    obtain ⟨f, hF⟩ := choose_lt hg
    have hlt : ∀ i, i < m → a.block < W.heap.size := by
      intro i him
      have := World.block_lt_of_cell? _ _ (hF i him).1.1
      unfold Addr.add at this
      split at this <;> simpa using this
    have hP : ((List.range len0).map f).length = len0 := by simp
    refine ⟨(List.range len0).map f, some a, m, by rw [hP], ?_, (fun h => by cases h), by rw [hP]; exact hl, hm, ?_⟩
    · by_cases h0 : len0 = 0
      · exact Or.inl (by rw [h0]; rfl)
      · right
        obtain ⟨bk, off, spot⟩ := a
        have hs : spot = none := by
          have := World.cell?_spot (hF 0 (by omega)).1.1
          simpa [Addr.add] using this
        subst hs
        refine ⟨bk, off, rfl, hlt 0 (by omega), ?_⟩
        intro k hk
        rw [hP] at hk
        obtain ⟨⟨q0, q1, q2, q3, q4⟩, _⟩ := hF k (by omega)
        have e0 : (⟨bk, off, none⟩ : Addr).add (k * 5) = ⟨bk, off + k * 5, none⟩ := by
          unfold Addr.add; split
          · rename_i hz; rw [hz]; rfl
          · rfl
        rw [e0] at q0 q1 q2 q3 q4
        have e1 : (⟨bk, off + k * 5, none⟩ : Addr).add 1 = ⟨bk, off + k * 5 + 1, none⟩ := rfl
        rw [e1] at q1
        have e2 : (⟨bk, off + k * 5, none⟩ : Addr).add 2 = ⟨bk, off + k * 5 + 2, none⟩ := rfl
        rw [e2] at q2
        have e3 : (⟨bk, off + k * 5, none⟩ : Addr).add 3 = ⟨bk, off + k * 5 + 3, none⟩ := rfl
        rw [e3] at q3
        have e4 : (⟨bk, off + k * 5, none⟩ : Addr).add 4 = ⟨bk, off + k * 5 + 4, none⟩ := rfl
        rw [e4] at q4
        simp only [List.getElem_map, List.getElem_range]
        exact ⟨q0, q1, q2, q3, q4⟩
    · intro W' hB
      simp only [Prod.mk.injEq] at hx
      obtain ⟨rfl, rfl⟩ := hx
      by_cases hsp : a.block < W.heap.size
      · have hk : ∀ i, i < m → ∃ cs n, W'.cells? 0 (a.add (i * Try.prog.cellsOf 55)) (Try.prog.cellsOf 55) = some cs ∧ DataW.trod enc Try.prog W' 0 (fun b => decide (b < W.heap.size)) true n 55 cs = some (D i, Pl i) := by
          intro i him
          obtain ⟨⟨q0, q1, q2, q3, q4⟩, hD, hPl, w0, w1, w2, w3, w4⟩ := hF i him
          rw [cLeg5, hD, hPl]
          have bb : ∀ j, (a.add j).block = a.block := fun j => by unfold Addr.add; split <;> rfl
          refine ⟨[.int .i64 (f i).f, .int .i64 (f i).t, .int .i64 (f i).s, .int .i64 (f i).o, .int .i64 (f i).h], 3, cellsL5 ?_ ?_ ?_ ?_ ?_, legCell_mk w0 w1 w2 w3 w4⟩
          · exact (hB.cell (by rw [bb]; exact hsp)).trans q0
          · refine (hB.cell ?_).trans q1
            rw [show ((a.add (i * 5)).add 1).block = (a.add (i * 5)).block by unfold Addr.add; simp, bb]
            exact hsp
          · refine (hB.cell ?_).trans q2
            rw [show ((a.add (i * 5)).add 2).block = (a.add (i * 5)).block by unfold Addr.add; simp, bb]
            exact hsp
          · refine (hB.cell ?_).trans q3
            rw [show ((a.add (i * 5)).add 3).block = (a.add (i * 5)).block by unfold Addr.add; simp, bb]
            exact hsp
          · refine (hB.cell ?_).trans q4
            rw [show ((a.add (i * 5)).add 4).block = (a.add (i * 5)).block by unfold Addr.add; simp, bb]
            exact hsp
        obtain ⟨q, hq⟩ := shut_slice_whole_cells (enc := enc) (P := Try.prog) (w := W') (base := 0) (spare := fun b => decide (b < W.heap.size)) (held := true) Try.underlying69 (Nat.zero_le _) hl hm (by simpa using hsp) D Pl hk
        exact ⟨q, by simpa [Value.cells] using hq⟩
      · have hm0 : m = 0 := by
          by_cases c : m = 0
          · exact c
          · exact absurd (hlt 0 (by omega)) hsp
        subst hm0
        have hl0 : len0 = 0 := by omega
        subst hl0
        obtain ⟨q, hq⟩ := shut_slice_cells (enc := enc) (P := Try.prog) (w := W') (base := 0) (spare := fun b => decide (b < W.heap.size)) (held := true) (a := a) (len := 0) (cap := 0) Try.underlying69 (Nat.zero_le _) (Nat.le_refl _) hm (by simpa using hsp) D Pl (fun i hi => by omega)
        exact ⟨q, by simpa [Value.cells] using hq⟩
end Go.Proofs.Ytchfhhmmjioajaa
