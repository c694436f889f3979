/- Waves, tables of tides as arguments: opened to lists, and shut again behind a call that only makes memory. -/
import Derived.Test.YtallnjehhoengaaGreatSWave
import Derived.ProofKit
import Derived.OpenShut
import Derived.Lib.SmallJoins
import Derived.Deep.Slices
import Derived.Deep.Strs
namespace Go.Proofs.YtallnjehhoengaaGreat
open Go.ChangeShapes Go.WideShapes Go.ChangeAt Go.RowKit Go.Joins Go.Deep
set_option linter.unusedVariables false
theorem cIntS : Tryz.prog.cellsOf 3 = 1 := by kernel_rfl
theorem wvCell_c : Tryz.prog.cellsOf 34 = 3 := by kernel_rfl
theorem cTide2 : Tryz.prog.cellsOf 41 = 2 := by kernel_rfl
theorem cSlW1 : Tryz.prog.cellsOf 39 = 1 := by kernel_rfl
section
variable {H : Type} {enc : TypeId × Value → H} {w : World} {base : Nat} {spare : Nat → Bool} {held : Bool}
set_option maxRecDepth 100000 in
theorem wvCell {n : Nat} {cs : List Value} {x : DataW H × List MemPlace} (h : DataW.trod enc Tryz.prog w base spare held n 34 cs = some x) :
    ∃ s d g : Int, cs = [.int .i64 s, .int .i64 d, .int .i64 g] ∧ x = (.agg [.lit (.int .i64 s), .lit (.int .i64 d), .lit (.int .i64 g)], []) ∧ (Lit.int .i64 s).wf = true ∧ (Lit.int .i64 d).wf = true ∧ (Lit.int .i64 g).wf = true := by
  obtain ⟨y0, y1, y2, m, rfl, hl, q0, q1, q2⟩ := trod_struct3 Tryz.underlying34 h
  rw [wvCell_c] at hl
  match cs, hl with
  | [c0, c1, c2], _ =>
    have r0 : DataW.trod enc Tryz.prog w base spare held m 3 [c0] = some y0 := by simpa [cIntS] using q0
    have r1 : DataW.trod enc Tryz.prog w base spare held m 3 [c1] = some y1 := by simpa [cIntS] using q1
    have r2 : DataW.trod enc Tryz.prog w base spare held m 3 [c2] = some y2 := by simpa [cIntS] using q2
    obtain ⟨a0, e0, rfl, w0⟩ := DataW.trod_int Tryz.underlying3 r0
    obtain ⟨a1, e1, rfl, w1⟩ := DataW.trod_int Tryz.underlying3 r1
    obtain ⟨a2, e2, rfl, w2⟩ := DataW.trod_int Tryz.underlying3 r2
    simp at e0 e1 e2
    subst e0 e1 e2
    exact ⟨a0, a1, a2, rfl, by simp, w0, w1, w2⟩
set_option maxRecDepth 100000 in
theorem wvCell_mk {s d g : Int} (w0 : (Lit.int .i64 s).wf = true) (w1 : (Lit.int .i64 d).wf = true) (w2 : (Lit.int .i64 g).wf = true) :
    DataW.trod enc Tryz.prog w base spare held 2 34 [.int .i64 s, .int .i64 d, .int .i64 g] = some (.agg [.lit (.int .i64 s), .lit (.int .i64 d), .lit (.int .i64 g)], []) := by
  have t0 : DataW.trod enc Tryz.prog w base spare held 1 3 [.int .i64 s] = some (.lit (.int .i64 s), []) := trod_int_mk 0 Tryz.underlying3 w0
  have t1 : DataW.trod enc Tryz.prog w base spare held 1 3 [.int .i64 d] = some (.lit (.int .i64 d), []) := trod_int_mk 0 Tryz.underlying3 w1
  have t2 : DataW.trod enc Tryz.prog w base spare held 1 3 [.int .i64 g] = some (.lit (.int .i64 g), []) := trod_int_mk 0 Tryz.underlying3 w2
  exact trod_struct3_mk (n := 1) (cs := [.int .i64 s, .int .i64 d, .int .i64 g]) Tryz.underlying34 (by simp [wvCell_c]) (by simpa [cIntS] using t0) (by simpa [cIntS] using t1) (by simpa [cIntS] using t2)
end
set_option maxRecDepth 100000 in
theorem openWvs {H : Type} {enc : TypeId × Value → H} {W : World} {v : Value} {d : DataW H} {p : List MemPlace} (hv : ∃ a l c, v = .slice a l c) (h : DataW.Trod enc Tryz.prog W 0 (fun _ => true) true 39 v d p) :
    ∃ (L : List Wv) (A : Option Addr) (cap : Nat), v = .slice A L.length cap ∧ SlRows wvV 3 W A L ∧ (∀ g ∈ L, (Lit.int .i64 g.h).wf = true ∧ (Lit.int .i64 g.p).wf = true ∧ (Lit.int .i64 g.f).wf = true) ∧ (A = none → cap = 0) ∧ L.length ≤ cap ∧ cap ≤ maxLen ∧
      (∀ W', Below W.heap.size W W' → DataW.Trod enc Tryz.prog W' 0 (fun b => decide (b < W.heap.size)) true 39 v d p) :=
  openRows (f := wvV) (n := 3) (rd := fun g => .agg [.lit (.int .i64 g.h), .lit (.int .i64 g.p), .lit (.int .i64 g.f)]) (wf := fun g => (Lit.int .i64 g.h).wf = true ∧ (Lit.int .i64 g.p).wf = true ∧ (Lit.int .i64 g.f).wf = true) 2 Tryz.underlying39 wvCell_c (by decide) (fun _ => rfl)
    (fun h => by
      obtain ⟨s, d, g, rfl, rfl, w0, w1, w2⟩ := wvCell h
      exact ⟨⟨s, d, g⟩, rfl, rfl, w0, w1, w2⟩)
    (fun hw => wvCell_mk hw.1 hw.2.1 hw.2.2) hv h
set_option maxRecDepth 100000 in
theorem openTide {H : Type} {enc : TypeId × Value → H} {W : World} {r : Reach} {b0 : Nat} {v : Value} {d : DataW H} {p : List MemPlace} (hv : Value.okWide Tryz.prog W r b0 41 v) (h : DataW.Trod enc Tryz.prog W 0 (fun _ => true) true 41 v d p) :
    ∃ (m : Int) (L : List Wv) (A : Option Addr) (cap : Nat), v = .agg #[.int .i64 m, .slice A L.length cap] ∧ SlRows wvV 3 W A L ∧ (A = none → cap = 0) ∧ L.length ≤ cap ∧ cap ≤ maxLen ∧
      (∀ W', Below W.heap.size W W' → DataW.Trod enc Tryz.prog W' 0 (fun b => decide (b < W.heap.size)) true 41 v d p) := by
  obtain ⟨cs, rfl, hsz⟩ := okWide_struct Tryz.underlying41 hv
  rw [cTide2] at hsz
  obtain ⟨fuel, hf⟩ := h
  obtain ⟨y0, y1, m, hx, hl, q0, q1⟩ := trod_struct2 Tryz.underlying41 hf
  obtain ⟨l⟩ := cs
  match l, hsz with
  | [c0, c1], _ =>
    have r0 : DataW.trod enc Tryz.prog W 0 (fun _ => true) true m 3 [c0] = some y0 := by simpa [cIntS, Value.cells] using q0
    have r1 : DataW.trod enc Tryz.prog W 0 (fun _ => true) true m 39 [c1] = some y1 := by simpa [cSlW1, Value.cells] using q1
    obtain ⟨mm, e0, hy0, w0⟩ := DataW.trod_int Tryz.underlying3 r0
    obtain ⟨a1, l1, k1, e1⟩ := slice_form Tryz.underlying39 r1
    simp only [List.cons.injEq, and_true] at e0 e1
    obtain ⟨G, A, cap, hG, sG, _, nG, leG, mG, shG⟩ := openWvs (enc := enc) (v := c1) (d := y1.1) (p := y1.2) ⟨a1, l1, k1, e1⟩ ⟨m, by rw [e1] at r1 ⊢; simpa [Value.cells] using r1⟩
    subst e0 hG
    refine ⟨mm, G, A, cap, rfl, sG, nG, leG, mG, fun W' hB => ?_⟩
    obtain ⟨n1, g1⟩ := shG W' hB
    have g0 : DataW.trod enc Tryz.prog W' 0 (fun b => decide (b < W.heap.size)) true 1 3 [.int .i64 mm] = some y0 := by rw [hy0]; exact trod_int_mk 0 Tryz.underlying3 w0
    have M : ∃ M, n1 ≤ M ∧ 1 ≤ M := ⟨n1 + 1, by omega, by omega⟩
    obtain ⟨M, m1, m0⟩ := M
    have f0 := DataW.trod_le m0 g0
    have f1 := DataW.trod_le m1 g1
    refine ⟨M + 1, ?_⟩
    have := trod_struct2_mk (enc := enc) (w := W') (base := 0) (spare := fun b => decide (b < W.heap.size)) (held := true) (n := M) (y0 := y0) (y1 := y1) (cs := [.int .i64 mm, .slice A G.length cap]) Tryz.underlying41 (by simp [cTide2])
      (by simpa [cIntS, Value.cells] using f0) (by simpa [cSlW1, Value.cells] using f1)
    rw [hx]
    simpa [Value.cells] using this
end Go.Proofs.YtallnjehhoengaaGreat
