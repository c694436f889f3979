import Derived.Test.YtfaodlcfjhnhbaaTClone
import Derived.ProofKit
import Derived.OpenShut
import Derived.Lib.SmallJoins
import Derived.Deep.Slices
import Derived.Deep.Strs
/- An argument that is a slice of loads: opened to a list, and shut again behind a call that only makes memory. -/
namespace Go.Proofs.Ytfaodlcfjhnhbaa
open Go.ChangeShapes Go.WideShapes Go.ChangeAt Go.RowKit Go.Joins Go.Deep
set_option linter.unusedVariables false
set_option linter.unusedSimpArgs false

theorem cIntL : Try.prog.cellsOf 3 = 1 := by kernel_rfl
theorem cRangeL : Try.prog.cellsOf 47 = 2 := by kernel_rfl
theorem cLoad4 : Try.prog.cellsOf 49 = 4 := by kernel_rfl
section
variable {H : Type} {enc : TypeId × Value → H} {w : World} {base : Nat} {spare : Nat → Bool} {held : Bool}
set_option maxRecDepth 100000 in
theorem rangeCell {n : Nat} {c0 c1 : Value} {x : DataW H × List MemPlace} (h : DataW.trod enc Try.prog w base spare held n 47 [c0, c1] = some x) :
    ∃ o p : Int, c0 = .int .i64 o ∧ c1 = .int .i64 p ∧ x = (.agg [.lit (.int .i64 o), .lit (.int .i64 p)], []) ∧ (Lit.int .i64 o).wf = true ∧ (Lit.int .i64 p).wf = true := by
  obtain ⟨z0, z1, m', rfl, hl', t0, t1⟩ := trod_struct2 Try.underlying47 h
  have s0 : DataW.trod enc Try.prog w base spare held m' 3 [c0] = some z0 := by simpa [cIntL] using t0
  have s1 : DataW.trod enc Try.prog w base spare held m' 3 [c1] = some z1 := by simpa [cIntL] using t1
  obtain ⟨a0, e0, rfl, w0⟩ := DataW.trod_int Try.underlying3 s0
  obtain ⟨a1, e1, rfl, w1⟩ := DataW.trod_int Try.underlying3 s1
  simp at e0 e1
  subst e0 e1
  exact ⟨a0, a1, rfl, rfl, by simp, w0, w1⟩
set_option maxRecDepth 100000 in
theorem loadCell {n : Nat} {cs : List Value} {x : DataW H × List MemPlace} (h : DataW.trod enc Try.prog w base spare held n 49 cs = some x) :
    ∃ a b c d : Int, cs = [.int .i64 a, .int .i64 b, .int .i64 c, .int .i64 d] ∧ x = (.agg [.agg [.lit (.int .i64 a), .lit (.int .i64 b)], .agg [.lit (.int .i64 c), .lit (.int .i64 d)]], []) ∧ (Lit.int .i64 a).wf = true ∧ (Lit.int .i64 b).wf = true ∧ (Lit.int .i64 c).wf = true ∧ (Lit.int .i64 d).wf = true := by
  obtain ⟨y0, y1, m, rfl, hl, q0, q1⟩ := trod_struct2 Try.underlying49 h
  rw [cLoad4] at hl
  match cs, hl with
  | [c0, c1, c2, c3], _ =>
    have r0 : DataW.trod enc Try.prog w base spare held m 47 [c0, c1] = some y0 := by simpa [cRangeL] using q0
    have r1 : DataW.trod enc Try.prog w base spare held m 47 [c2, c3] = some y1 := by simpa [cRangeL] using q1
    obtain ⟨a, b, rfl, rfl, rfl, w0, w1⟩ := rangeCell r0
    obtain ⟨c, d, rfl, rfl, rfl, w2, w3⟩ := rangeCell r1
    exact ⟨a, b, c, d, rfl, by simp, w0, w1, w2, w3⟩
set_option maxRecDepth 100000 in
theorem rangeCell_mk {o h : Int} (w0 : (Lit.int .i64 o).wf = true) (w1 : (Lit.int .i64 h).wf = true) :
    DataW.trod enc Try.prog w base spare held 2 47 [.int .i64 o, .int .i64 h] = some (.agg [.lit (.int .i64 o), .lit (.int .i64 h)], []) := by
  have t0 : DataW.trod enc Try.prog w base spare held 1 3 [.int .i64 o] = some (.lit (.int .i64 o), []) := trod_int_mk 0 Try.underlying3 w0
  have t1 : DataW.trod enc Try.prog w base spare held 1 3 [.int .i64 h] = some (.lit (.int .i64 h), []) := trod_int_mk 0 Try.underlying3 w1
  exact trod_struct2_mk (n := 1) (cs := [.int .i64 o, .int .i64 h]) Try.underlying47 (by simp [cRangeL]) (by simpa [cIntL] using t0) (by simpa [cIntL] using t1)
set_option maxRecDepth 100000 in
theorem loadCell_mk {a b c d : Int} (w0 : (Lit.int .i64 a).wf = true) (w1 : (Lit.int .i64 b).wf = true) (w2 : (Lit.int .i64 c).wf = true) (w3 : (Lit.int .i64 d).wf = true) :
    DataW.trod enc Try.prog w base spare held 3 49 [.int .i64 a, .int .i64 b, .int .i64 c, .int .i64 d] = some (.agg [.agg [.lit (.int .i64 a), .lit (.int .i64 b)], .agg [.lit (.int .i64 c), .lit (.int .i64 d)]], []) := by
  have g0 : DataW.trod enc Try.prog w base spare held 2 47 [.int .i64 a, .int .i64 b] = some (.agg [.lit (.int .i64 a), .lit (.int .i64 b)], []) := rangeCell_mk w0 w1
  have g1 : DataW.trod enc Try.prog w base spare held 2 47 [.int .i64 c, .int .i64 d] = some (.agg [.lit (.int .i64 c), .lit (.int .i64 d)], []) := rangeCell_mk w2 w3
  exact trod_struct2_mk (n := 2) (cs := [.int .i64 a, .int .i64 b, .int .i64 c, .int .i64 d]) Try.underlying49 (by simp [cLoad4]) (by simpa [cRangeL] using g0) (by simpa [cRangeL] using g1)
end
theorem cellsL4 {w : World} {a : Addr} {x y z u : Value} (h0 : w.cell? a = some x) (h1 : w.cell? (a.add 1) = some y) (h2 : w.cell? (a.add 2) = some z) (h3 : w.cell? (a.add 3) = some u) : w.cells? 0 a 4 = some [x, y, z, u] := by
  unfold World.cells?
  rw [if_pos (Nat.zero_le _)]
  have e0 : a.add 0 = a := by simp [Addr.add]
  simp [List.range_succ, e0, h0, h1, h2, h3]
set_option maxRecDepth 100000 in
theorem openLoads {H : Type} {enc : TypeId × Value → H} {W : World} {r : Reach} {b0 : Nat} {v : Value} {d : DataW H} {p : List MemPlace} (hv : Value.okWide Try.prog W r b0 23 v) (h : DataW.Trod enc Try.prog W 0 (fun _ => true) true 23 v d p) :
    ∃ (P : List Ld) (A : Option Addr) (cap : Nat), v = .slice A P.length cap ∧ SlLd W A P ∧ (A = none → cap = 0) ∧ P.length ≤ cap ∧ cap ≤ maxLen ∧
      (∀ W', Below W.heap.size W W' → DataW.Trod enc Try.prog W' 0 (fun b => decide (b < W.heap.size)) true 23 v d p) := by
  obtain ⟨a0, len0, cap0, rfl⟩ := okWide_slice Try.underlying23 hv
  obtain ⟨fuel, hf⟩ := h
  rcases open_slice Try.underlying23 hf with ⟨hcs, hx⟩ | ⟨a, len, cap, m, n, D, Pl, hcs, hb, hl, hm, hmm, hx, hi⟩
  · simp [Value.cells] at hcs
    obtain ⟨rfl, rfl, rfl⟩ := hcs
    simp only [Prod.mk.injEq] at hx
    obtain ⟨rfl, rfl⟩ := hx
    refine ⟨[], none, 0, rfl, Or.inl rfl, fun _ => rfl, by simp, by simp, fun W' hB => ⟨1, ?_⟩⟩
    simp [Value.cells, DataW.trod, Try.underlying23]
  · simp [Value.cells] at hcs
    obtain ⟨rfl, rfl, rfl⟩ := hcs
    have hmc : m = cap0 := by simpa using hmm
    subst hmc
    have hg : ∀ i, i < m → ∃ g : Ld, (W.cell? (a.add (i * 4)) = some (.int .i64 g.a) ∧ W.cell? ((a.add (i * 4)).add 1) = some (.int .i64 g.b) ∧ W.cell? ((a.add (i * 4)).add 2) = some (.int .i64 g.c) ∧ W.cell? ((a.add (i * 4)).add 3) = some (.int .i64 g.d)) ∧ D i = .agg [.agg [.lit (.int .i64 g.a), .lit (.int .i64 g.b)], .agg [.lit (.int .i64 g.c), .lit (.int .i64 g.d)]] ∧ Pl i = [] ∧ (Lit.int .i64 g.a).wf = true ∧ (Lit.int .i64 g.b).wf = true ∧ (Lit.int .i64 g.c).wf = true ∧ (Lit.int .i64 g.d).wf = true := by
      intro i him
      obtain ⟨cs', hc, ht'⟩ := hi i him
      rw [cLoad4] at hc
      obtain ⟨xa, xb, xc, xd, rfl, hx', w0, w1, w2, w3⟩ := loadCell ht'
      obtain ⟨_, _, hat⟩ := World.cells?_some hc
      simp only [Prod.mk.injEq] at hx'
      have g0 := hat 0 (by omega)
      have g1 := hat 1 (by omega)
      have g2 := hat 2 (by omega)
      have g3 := hat 3 (by omega)
      refine ⟨⟨xa, xb, xc, xd⟩, ⟨?_, ?_, ?_, ?_⟩, hx'.1, hx'.2, w0, w1, w2, w3⟩
      · simpa [Addr.add] using g0
      · simpa using g1
      · simpa using g2
      · simpa using g3
    obtain ⟨f, hF⟩ := choose_lt hg
    have hlt : ∀ i, i < m → a.block < W.heap.size := by
      intro i him
      have := World.block_lt_of_cell? _ _ (hF i him).1.1
      unfold Addr.add at this
      split at this <;> simpa using this
    have hP : ((List.range len0).map f).length = len0 := by simp
    refine ⟨(List.range len0).map f, some a, m, by rw [hP], ?_, (fun h => by cases h), by rw [hP]; exact hl, hm, ?_⟩
    · by_cases h0 : len0 = 0
      · exact Or.inl (by rw [h0]; rfl)
      · right
        obtain ⟨bk, off, spot⟩ := a
        have hs : spot = none := by
          have := World.cell?_spot (hF 0 (by omega)).1.1
          simpa [Addr.add] using this
        subst hs
        refine ⟨bk, off, rfl, hlt 0 (by omega), ?_⟩
        intro k hk
        rw [hP] at hk
        obtain ⟨⟨q0, q1, q2, q3⟩, _⟩ := hF k (by omega)
        have e0 : (⟨bk, off, none⟩ : Addr).add (k * 4) = ⟨bk, off + k * 4, none⟩ := by
          unfold Addr.add; split
          · rename_i hz; rw [hz]; rfl
          · rfl
        rw [e0] at q0 q1 q2 q3
        have e1 : (⟨bk, off + k * 4, none⟩ : Addr).add 1 = ⟨bk, off + k * 4 + 1, none⟩ := rfl
        rw [e1] at q1
        have e2 : (⟨bk, off + k * 4, none⟩ : Addr).add 2 = ⟨bk, off + k * 4 + 2, none⟩ := rfl
        rw [e2] at q2
        have e3 : (⟨bk, off + k * 4, none⟩ : Addr).add 3 = ⟨bk, off + k * 4 + 3, none⟩ := rfl
        rw [e3] at q3
        simp only [List.getElem_map, List.getElem_range]
        exact ⟨q0, q1, q2, q3⟩
    · intro W' hB
      simp only [Prod.mk.injEq] at hx
      obtain ⟨rfl, rfl⟩ := hx
      by_cases hsp : a.block < W.heap.size
      · have hk : ∀ i, i < m → ∃ cs n, W'.cells? 0 (a.add (i * Try.prog.cellsOf 49)) (Try.prog.cellsOf 49) = some cs ∧ DataW.trod enc Try.prog W' 0 (fun b => decide (b < W.heap.size)) true n 49 cs = some (D i, Pl i) := by
          intro i him
          obtain ⟨⟨q0, q1, q2, q3⟩, hD, hPl, w0, w1, w2, w3⟩ := hF i him
          rw [cLoad4, hD, hPl]
          have bb : ∀ j, (a.add j).block = a.block := fun j => by unfold Addr.add; split <;> rfl
          refine ⟨[.int .i64 (f i).a, .int .i64 (f i).b, .int .i64 (f i).c, .int .i64 (f i).d], 3, cellsL4 ?_ ?_ ?_ ?_, loadCell_mk w0 w1 w2 w3⟩
          · exact (hB.cell (by rw [bb]; exact hsp)).trans q0
          · refine (hB.cell ?_).trans q1
            rw [show ((a.add (i * 4)).add 1).block = (a.add (i * 4)).block by unfold Addr.add; simp, bb]
            exact hsp
          · refine (hB.cell ?_).trans q2
            rw [show ((a.add (i * 4)).add 2).block = (a.add (i * 4)).block by unfold Addr.add; simp, bb]
            exact hsp
          · refine (hB.cell ?_).trans q3
            rw [show ((a.add (i * 4)).add 3).block = (a.add (i * 4)).block by unfold Addr.add; simp, bb]
            exact hsp
        obtain ⟨q, hq⟩ := shut_slice_whole_cells (enc := enc) (P := Try.prog) (w := W') (base := 0) (spare := fun b => decide (b < W.heap.size)) (held := true) Try.underlying23 (Nat.zero_le _) hl hm (by simpa using hsp) D Pl hk
        exact ⟨q, by simpa [Value.cells] using hq⟩
      · have hm0 : m = 0 := by
          by_cases c : m = 0
          · exact c
          · exact absurd (hlt 0 (by omega)) hsp
        subst hm0
        have hl0 : len0 = 0 := by omega
        subst hl0
        obtain ⟨q, hq⟩ := shut_slice_cells (enc := enc) (P := Try.prog) (w := W') (base := 0) (spare := fun b => decide (b < W.heap.size)) (held := true) (a := a) (len := 0) (cap := 0) Try.underlying23 (Nat.zero_le _) (Nat.le_refl _) hm (by simpa using hsp) D Pl (fun i hi => by omega)
        exact ⟨q, by simpa [Value.cells] using hq⟩
end Go.Proofs.Ytfaodlcfjhnhbaa

/- Tables, loads and dives as arguments: opened to lists, and shut again behind a call that only makes memory. -/
namespace Go.Proofs.Ytfaodlcfjhnhbaa
open Go.ChangeShapes Go.WideShapes Go.ChangeAt Go.RowKit Go.Joins Go.Deep
set_option linter.unusedVariables false
set_option linter.unusedSimpArgs false

theorem cComp4 : Try.prog.cellsOf 71 = 4 := by kernel_rfl
section
variable {H : Type} {enc : TypeId × Value → H} {w : World} {base : Nat} {spare : Nat → Bool} {held : Bool}
set_option maxRecDepth 100000 in
theorem compCell {n : Nat} {cs : List Value} {x : DataW H × List MemPlace} (h : DataW.trod enc Try.prog w base spare held n 71 cs = some x) :
    ∃ a b c d : Int, cs = [.int .i64 a, .int .i64 b, .int .i64 c, .int .i64 d] ∧ x = (.agg [.lit (.int .i64 a), .lit (.int .i64 b), .lit (.int .i64 c), .lit (.int .i64 d)], []) ∧ (Lit.int .i64 a).wf = true ∧ (Lit.int .i64 b).wf = true ∧ (Lit.int .i64 c).wf = true ∧ (Lit.int .i64 d).wf = true := by
  obtain ⟨y0, y1, y2, y3, m, rfl, hl, q0, q1, q2, q3⟩ := trod_struct4 Try.underlying71 h
  rw [cComp4] at hl
  match cs, hl with
  | [c0, c1, c2, c3], _ =>
    have r0 : DataW.trod enc Try.prog w base spare held m 3 [c0] = some y0 := by simpa [cIntL] using q0
    have r1 : DataW.trod enc Try.prog w base spare held m 3 [c1] = some y1 := by simpa [cIntL] using q1
    have r2 : DataW.trod enc Try.prog w base spare held m 3 [c2] = some y2 := by simpa [cIntL] using q2
    have r3 : DataW.trod enc Try.prog w base spare held m 3 [c3] = some y3 := by simpa [cIntL] using q3
    obtain ⟨a0, e0, rfl, w0⟩ := DataW.trod_int Try.underlying3 r0
    obtain ⟨a1, e1, rfl, w1⟩ := DataW.trod_int Try.underlying3 r1
    obtain ⟨a2, e2, rfl, w2⟩ := DataW.trod_int Try.underlying3 r2
    obtain ⟨a3, e3, rfl, w3⟩ := DataW.trod_int Try.underlying3 r3
    simp at e0 e1 e2 e3
    subst e0 e1 e2 e3
    exact ⟨a0, a1, a2, a3, rfl, by simp, w0, w1, w2, w3⟩
set_option maxRecDepth 100000 in
theorem compCell_mk {a b c d : Int} (w0 : (Lit.int .i64 a).wf = true) (w1 : (Lit.int .i64 b).wf = true) (w2 : (Lit.int .i64 c).wf = true) (w3 : (Lit.int .i64 d).wf = true) :
    DataW.trod enc Try.prog w base spare held 2 71 [.int .i64 a, .int .i64 b, .int .i64 c, .int .i64 d] = some (.agg [.lit (.int .i64 a), .lit (.int .i64 b), .lit (.int .i64 c), .lit (.int .i64 d)], []) := by
  have t : ∀ {n : Int}, (Lit.int .i64 n).wf = true → DataW.trod enc Try.prog w base spare held 1 3 [.int .i64 n] = some (.lit (.int .i64 n), []) := fun h => trod_int_mk 0 Try.underlying3 h
  exact trod_struct4_mk (n := 1) (cs := [.int .i64 a, .int .i64 b, .int .i64 c, .int .i64 d]) Try.underlying71 (by simp [cComp4]) (by simpa [cIntL] using t w0) (by simpa [cIntL] using t w1) (by simpa [cIntL] using t w2) (by simpa [cIntL] using t w3)
end
set_option maxRecDepth 100000 in
theorem openLoadsV {H : Type} {enc : TypeId × Value → H} {W : World} {v : Value} {d : DataW H} {p : List MemPlace} (hv : ∃ a l c, v = .slice a l c) (h : DataW.Trod enc Try.prog W 0 (fun _ => true) true 23 v d p) :
    ∃ (P : List Ld) (A : Option Addr) (cap : Nat), v = .slice A P.length cap ∧ SlLd W A P ∧ (A = none → cap = 0) ∧ P.length ≤ cap ∧ cap ≤ maxLen ∧
      (∀ W', Below W.heap.size W W' → DataW.Trod enc Try.prog W' 0 (fun b => decide (b < W.heap.size)) true 23 v d p) := by
  obtain ⟨a0, len0, cap0, rfl⟩ := hv
  obtain ⟨fuel, hf⟩ := h
  rcases open_slice Try.underlying23 hf with ⟨hcs, hx⟩ | ⟨a, len, cap, m, n, D, Pl, hcs, hb, hl, hm, hmm, hx, hi⟩
  · simp [Value.cells] at hcs
    obtain ⟨rfl, rfl, rfl⟩ := hcs
    simp only [Prod.mk.injEq] at hx
    obtain ⟨rfl, rfl⟩ := hx
    refine ⟨[], none, 0, rfl, Or.inl rfl, fun _ => rfl, by simp, by simp, fun W' hB => ⟨1, ?_⟩⟩
    simp [Value.cells, DataW.trod, Try.underlying23]
  · simp [Value.cells] at hcs
    obtain ⟨rfl, rfl, rfl⟩ := hcs
    have hmc : m = cap0 := by simpa using hmm
    subst hmc
    have hg : ∀ i, i < m → ∃ g : Ld, (W.cell? (a.add (i * 4)) = some (.int .i64 g.a) ∧ W.cell? ((a.add (i * 4)).add 1) = some (.int .i64 g.b) ∧ W.cell? ((a.add (i * 4)).add 2) = some (.int .i64 g.c) ∧ W.cell? ((a.add (i * 4)).add 3) = some (.int .i64 g.d)) ∧ D i = .agg [.agg [.lit (.int .i64 g.a), .lit (.int .i64 g.b)], .agg [.lit (.int .i64 g.c), .lit (.int .i64 g.d)]] ∧ Pl i = [] ∧ (Lit.int .i64 g.a).wf = true ∧ (Lit.int .i64 g.b).wf = true ∧ (Lit.int .i64 g.c).wf = true ∧ (Lit.int .i64 g.d).wf = true := by
      intro i him
      obtain ⟨cs', hc, ht'⟩ := hi i him
      rw [cLoad4] at hc
      obtain ⟨xa, xb, xc, xd, rfl, hx', w0, w1, w2, w3⟩ := loadCell ht'
      obtain ⟨_, _, hat⟩ := World.cells?_some hc
      simp only [Prod.mk.injEq] at hx'
      have g0 := hat 0 (by omega)
      have g1 := hat 1 (by omega)
      have g2 := hat 2 (by omega)
      have g3 := hat 3 (by omega)
      refine ⟨⟨xa, xb, xc, xd⟩, ⟨?_, ?_, ?_, ?_⟩, hx'.1, hx'.2, w0, w1, w2, w3⟩
      · simpa [Addr.add] using g0
      · simpa using g1
      · simpa using g2
      · simpa using g3
    obtain ⟨f, hF⟩ := choose_lt hg
    have hlt : ∀ i, i < m → a.block < W.heap.size := by
      intro i him
      have := World.block_lt_of_cell? _ _ (hF i him).1.1
      unfold Addr.add at this
      split at this <;> simpa using this
    have hP : ((List.range len0).map f).length = len0 := by simp
    refine ⟨(List.range len0).map f, some a, m, by rw [hP], ?_, (fun h => by cases h), by rw [hP]; exact hl, hm, ?_⟩
    · by_cases h0 : len0 = 0
      · exact Or.inl (by rw [h0]; rfl)
      · right
        obtain ⟨bk, off, spot⟩ := a
        have hs : spot = none := by
          have := World.cell?_spot (hF 0 (by omega)).1.1
          simpa [Addr.add] using this
        subst hs
        refine ⟨bk, off, rfl, hlt 0 (by omega), ?_⟩
        intro k hk
        rw [hP] at hk
        obtain ⟨⟨q0, q1, q2, q3⟩, _⟩ := hF k (by omega)
        have e0 : (⟨bk, off, none⟩ : Addr).add (k * 4) = ⟨bk, off + k * 4, none⟩ := by
          unfold Addr.add; split
          · rename_i hz; rw [hz]; rfl
          · rfl
        rw [e0] at q0 q1 q2 q3
        have e1 : (⟨bk, off + k * 4, none⟩ : Addr).add 1 = ⟨bk, off + k * 4 + 1, none⟩ := rfl
        rw [e1] at q1
        have e2 : (⟨bk, off + k * 4, none⟩ : Addr).add 2 = ⟨bk, off + k * 4 + 2, none⟩ := rfl
        rw [e2] at q2
        have e3 : (⟨bk, off + k * 4, none⟩ : Addr).add 3 = ⟨bk, off + k * 4 + 3, none⟩ := rfl
        rw [e3] at q3
        simp only [List.getElem_map, List.getElem_range]
        exact ⟨q0, q1, q2, q3⟩
    · intro W' hB
      simp only [Prod.mk.injEq] at hx
      obtain ⟨rfl, rfl⟩ := hx
      by_cases hsp : a.block < W.heap.size
      · have hk : ∀ i, i < m → ∃ cs n, W'.cells? 0 (a.add (i * Try.prog.cellsOf 49)) (Try.prog.cellsOf 49) = some cs ∧ DataW.trod enc Try.prog W' 0 (fun b => decide (b < W.heap.size)) true n 49 cs = some (D i, Pl i) := by
          intro i him
          obtain ⟨⟨q0, q1, q2, q3⟩, hD, hPl, w0, w1, w2, w3⟩ := hF i him
          rw [cLoad4, hD, hPl]
          have bb : ∀ j, (a.add j).block = a.block := fun j => by unfold Addr.add; split <;> rfl
          refine ⟨[.int .i64 (f i).a, .int .i64 (f i).b, .int .i64 (f i).c, .int .i64 (f i).d], 3, cellsL4 ?_ ?_ ?_ ?_, loadCell_mk w0 w1 w2 w3⟩
          · exact (hB.cell (by rw [bb]; exact hsp)).trans q0
          · refine (hB.cell ?_).trans q1
            rw [show ((a.add (i * 4)).add 1).block = (a.add (i * 4)).block by unfold Addr.add; simp, bb]
            exact hsp
          · refine (hB.cell ?_).trans q2
            rw [show ((a.add (i * 4)).add 2).block = (a.add (i * 4)).block by unfold Addr.add; simp, bb]
            exact hsp
          · refine (hB.cell ?_).trans q3
            rw [show ((a.add (i * 4)).add 3).block = (a.add (i * 4)).block by unfold Addr.add; simp, bb]
            exact hsp
        obtain ⟨q, hq⟩ := shut_slice_whole_cells (enc := enc) (P := Try.prog) (w := W') (base := 0) (spare := fun b => decide (b < W.heap.size)) (held := true) Try.underlying23 (Nat.zero_le _) hl hm (by simpa using hsp) D Pl hk
        exact ⟨q, by simpa [Value.cells] using hq⟩
      · have hm0 : m = 0 := by
          by_cases c : m = 0
          · exact c
          · exact absurd (hlt 0 (by omega)) hsp
        subst hm0
        have hl0 : len0 = 0 := by omega
        subst hl0
        obtain ⟨q, hq⟩ := shut_slice_cells (enc := enc) (P := Try.prog) (w := W') (base := 0) (spare := fun b => decide (b < W.heap.size)) (held := true) (a := a) (len := 0) (cap := 0) Try.underlying23 (Nat.zero_le _) (Nat.le_refl _) hm (by simpa using hsp) D Pl (fun i hi => by omega)
        exact ⟨q, by simpa [Value.cells] using hq⟩
set_option maxRecDepth 100000 in
theorem openCompsV {H : Type} {enc : TypeId × Value → H} {W : World} {v : Value} {d : DataW H} {p : List MemPlace} (hv : ∃ a l c, v = .slice a l c) (h : DataW.Trod enc Try.prog W 0 (fun _ => true) true 22 v d p) :
    ∃ (P : List Cm) (A : Option Addr) (cap : Nat), v = .slice A P.length cap ∧ SlCm W A P ∧ (A = none → cap = 0) ∧ P.length ≤ cap ∧ cap ≤ maxLen ∧
      (∀ W', Below W.heap.size W W' → DataW.Trod enc Try.prog W' 0 (fun b => decide (b < W.heap.size)) true 22 v d p) := by
  obtain ⟨a0, len0, cap0, rfl⟩ := hv
  obtain ⟨fuel, hf⟩ := h
  rcases open_slice Try.underlying22 hf with ⟨hcs, hx⟩ | ⟨a, len, cap, m, n, D, Pl, hcs, hb, hl, hm, hmm, hx, hi⟩
  · simp [Value.cells] at hcs
    obtain ⟨rfl, rfl, rfl⟩ := hcs
    simp only [Prod.mk.injEq] at hx
    obtain ⟨rfl, rfl⟩ := hx
    refine ⟨[], none, 0, rfl, Or.inl rfl, fun _ => rfl, by simp, by simp, fun W' hB => ⟨1, ?_⟩⟩
    simp [Value.cells, DataW.trod, Try.underlying22]
  · simp [Value.cells] at hcs
    obtain ⟨rfl, rfl, rfl⟩ := hcs
    have hmc : m = cap0 := by simpa using hmm
    subst hmc
    have hg : ∀ i, i < m → ∃ g : Cm, (W.cell? (a.add (i * 4)) = some (.int .i64 g.n) ∧ W.cell? ((a.add (i * 4)).add 1) = some (.int .i64 g.h) ∧ W.cell? ((a.add (i * 4)).add 2) = some (.int .i64 g.b) ∧ W.cell? ((a.add (i * 4)).add 3) = some (.int .i64 g.s)) ∧ D i = .agg [.lit (.int .i64 g.n), .lit (.int .i64 g.h), .lit (.int .i64 g.b), .lit (.int .i64 g.s)] ∧ Pl i = [] ∧ (Lit.int .i64 g.n).wf = true ∧ (Lit.int .i64 g.h).wf = true ∧ (Lit.int .i64 g.b).wf = true ∧ (Lit.int .i64 g.s).wf = true := by
      intro i him
      obtain ⟨cs', hc, ht'⟩ := hi i him
      rw [cComp4] at hc
      obtain ⟨xa, xb, xc, xd, rfl, hx', w0, w1, w2, w3⟩ := compCell ht'
      obtain ⟨_, _, hat⟩ := World.cells?_some hc
      simp only [Prod.mk.injEq] at hx'
      have g0 := hat 0 (by omega)
      have g1 := hat 1 (by omega)
      have g2 := hat 2 (by omega)
      have g3 := hat 3 (by omega)
      refine ⟨⟨xa, xb, xc, xd⟩, ⟨?_, ?_, ?_, ?_⟩, hx'.1, hx'.2, w0, w1, w2, w3⟩
      · simpa [Addr.add] using g0
      · simpa using g1
      · simpa using g2
      · simpa using g3
    obtain ⟨f, hF⟩ := choose_lt hg
    have hlt : ∀ i, i < m → a.block < W.heap.size := by
      intro i him
      have := World.block_lt_of_cell? _ _ (hF i him).1.1
      unfold Addr.add at this
      split at this <;> simpa using this
    have hP : ((List.range len0).map f).length = len0 := by simp
    refine ⟨(List.range len0).map f, some a, m, by rw [hP], ?_, (fun h => by cases h), by rw [hP]; exact hl, hm, ?_⟩
    · by_cases h0 : len0 = 0
      · exact Or.inl (by rw [h0]; rfl)
      · right
        obtain ⟨bk, off, spot⟩ := a
        have hs : spot = none := by
          have := World.cell?_spot (hF 0 (by omega)).1.1
          simpa [Addr.add] using this
        subst hs
        refine ⟨bk, off, rfl, hlt 0 (by omega), ?_⟩
        intro k hk
        rw [hP] at hk
        obtain ⟨⟨q0, q1, q2, q3⟩, _⟩ := hF k (by omega)
        have e0 : (⟨bk, off, none⟩ : Addr).add (k * 4) = ⟨bk, off + k * 4, none⟩ := by
          unfold Addr.add; split
          · rename_i hz; rw [hz]; rfl
          · rfl
        rw [e0] at q0 q1 q2 q3
        have e1 : (⟨bk, off + k * 4, none⟩ : Addr).add 1 = ⟨bk, off + k * 4 + 1, none⟩ := rfl
        rw [e1] at q1
        have e2 : (⟨bk, off + k * 4, none⟩ : Addr).add 2 = ⟨bk, off + k * 4 + 2, none⟩ := rfl
        rw [e2] at q2
        have e3 : (⟨bk, off + k * 4, none⟩ : Addr).add 3 = ⟨bk, off + k * 4 + 3, none⟩ := rfl
        rw [e3] at q3
        simp only [List.getElem_map, List.getElem_range]
        exact ⟨q0, q1, q2, q3⟩
    · intro W' hB
      simp only [Prod.mk.injEq] at hx
      obtain ⟨rfl, rfl⟩ := hx
      by_cases hsp : a.block < W.heap.size
      · have hk : ∀ i, i < m → ∃ cs n, W'.cells? 0 (a.add (i * Try.prog.cellsOf 71)) (Try.prog.cellsOf 71) = some cs ∧ DataW.trod enc Try.prog W' 0 (fun b => decide (b < W.heap.size)) true n 71 cs = some (D i, Pl i) := by
          intro i him
          obtain ⟨⟨q0, q1, q2, q3⟩, hD, hPl, w0, w1, w2, w3⟩ := hF i him
          rw [cComp4, hD, hPl]
          have bb : ∀ j, (a.add j).block = a.block := fun j => by unfold Addr.add; split <;> rfl
          refine ⟨[.int .i64 (f i).n, .int .i64 (f i).h, .int .i64 (f i).b, .int .i64 (f i).s], 2, cellsL4 ?_ ?_ ?_ ?_, compCell_mk w0 w1 w2 w3⟩
          · exact (hB.cell (by rw [bb]; exact hsp)).trans q0
          · refine (hB.cell ?_).trans q1
            rw [show ((a.add (i * 4)).add 1).block = (a.add (i * 4)).block by unfold Addr.add; simp, bb]
            exact hsp
          · refine (hB.cell ?_).trans q2
            rw [show ((a.add (i * 4)).add 2).block = (a.add (i * 4)).block by unfold Addr.add; simp, bb]
            exact hsp
          · refine (hB.cell ?_).trans q3
            rw [show ((a.add (i * 4)).add 3).block = (a.add (i * 4)).block by unfold Addr.add; simp, bb]
            exact hsp
        obtain ⟨q, hq⟩ := shut_slice_whole_cells (enc := enc) (P := Try.prog) (w := W') (base := 0) (spare := fun b => decide (b < W.heap.size)) (held := true) Try.underlying22 (Nat.zero_le _) hl hm (by simpa using hsp) D Pl hk
        exact ⟨q, by simpa [Value.cells] using hq⟩
      · have hm0 : m = 0 := by
          by_cases c : m = 0
          · exact c
          · exact absurd (hlt 0 (by omega)) hsp
        subst hm0
        have hl0 : len0 = 0 := by omega
        subst hl0
        obtain ⟨q, hq⟩ := shut_slice_cells (enc := enc) (P := Try.prog) (w := W') (base := 0) (spare := fun b => decide (b < W.heap.size)) (held := true) (a := a) (len := 0) (cap := 0) Try.underlying22 (Nat.zero_le _) (Nat.le_refl _) hm (by simpa using hsp) D Pl (fun i hi => by omega)
        exact ⟨q, by simpa [Value.cells] using hq⟩
set_option maxRecDepth 100000 in
theorem openComp {H : Type} {enc : TypeId × Value → H} {W : World} {r : Reach} {b0 : Nat} {v : Value} {d : DataW H} {p : List MemPlace} (hv : Value.okWide Try.prog W r b0 71 v) (h : DataW.Trod enc Try.prog W 0 (fun _ => true) true 71 v d p) :
    ∃ a b c e : Int, v = .agg #[.int .i64 a, .int .i64 b, .int .i64 c, .int .i64 e] ∧ p = [] ∧ (∀ W', DataW.Trod enc Try.prog W' 0 (fun b => decide (b < W.heap.size)) true 71 v d p) := by
  obtain ⟨cs, rfl, hsz⟩ := okWide_struct Try.underlying71 hv
  obtain ⟨fuel, hf⟩ := h
  obtain ⟨a, b, c, e, hcs, hx, w0, w1, w2, w3⟩ := compCell hf
  simp only [Prod.mk.injEq] at hx
  obtain ⟨rfl, rfl⟩ := hx
  have hc : cs = #[.int .i64 a, .int .i64 b, .int .i64 c, .int .i64 e] := by
    have : cs.toList = [.int .i64 a, .int .i64 b, .int .i64 c, .int .i64 e] := by simpa [Value.cells] using hcs
    exact Array.ext' (by simpa using this)
  subst hc
  exact ⟨a, b, c, e, rfl, rfl, fun W' => ⟨2, by simpa [Value.cells] using compCell_mk w0 w1 w2 w3⟩⟩
end Go.Proofs.Ytfaodlcfjhnhbaa
