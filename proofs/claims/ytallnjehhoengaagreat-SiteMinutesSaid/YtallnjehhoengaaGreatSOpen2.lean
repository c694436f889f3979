/- Waves by value and lists of windows as arguments: opened, and shut again behind a call that only makes memory. -/
import Derived.Test.YtallnjehhoengaaGreatSOpen
import Derived.Test.YtallnjehhoengaaGreatSWin
namespace Go.Proofs.YtallnjehhoengaaGreat
open Go.ChangeShapes Go.WideShapes Go.ChangeAt Go.RowKit Go.Joins Go.Deep
set_option linter.unusedVariables false
set_option maxRecDepth 100000 in
theorem openWv {H : Type} {enc : TypeId × Value → H} {W : World} {r : Reach} {b0 : Nat} {v : Value} {d : DataW H} {p : List MemPlace} (hv : Value.okWide Tryz.prog W r b0 34 v) (h : DataW.Trod enc Tryz.prog W 0 (fun _ => true) true 34 v d p) :
    ∃ a0 a1 a2 : Int, v = .agg #[.int .i64 a0, .int .i64 a1, .int .i64 a2] ∧ p = [] ∧ (∀ W', DataW.Trod enc Tryz.prog W' 0 (fun b => decide (b < W.heap.size)) true 34 v d p) := by
  obtain ⟨cs, rfl, hsz⟩ := okWide_struct Tryz.underlying34 hv
  rw [wvCell_c] at hsz
  obtain ⟨fuel, hf⟩ := h
  obtain ⟨l⟩ := cs
  match l, hsz with
  | [c0, c1, c2], _ =>
    obtain ⟨a0, a1, a2, hc, hx, w0, w1, w2⟩ := wvCell (by simpa [Value.cells] using hf)
    simp only [List.cons.injEq, and_true] at hc
    obtain ⟨rfl, rfl, rfl⟩ := hc
    simp only [Prod.mk.injEq] at hx
    obtain ⟨rfl, rfl⟩ := hx
    exact ⟨a0, a1, a2, rfl, rfl, fun W' => ⟨2, by simpa [Value.cells] using wvCell_mk w0 w1 w2⟩⟩
theorem rgCell_c : Tryz.prog.cellsOf 24 = 2 := by kernel_rfl
section
variable {H : Type} {enc : TypeId × Value → H} {w : World} {base : Nat} {spare : Nat → Bool} {held : Bool}
set_option maxRecDepth 100000 in
theorem rgCell {n : Nat} {cs : List Value} {x : DataW H × List MemPlace} (h : DataW.trod enc Tryz.prog w base spare held n 24 cs = some x) :
    ∃ s d : Int, cs = [.int .i64 s, .int .i64 d] ∧ x = (.agg [.lit (.int .i64 s), .lit (.int .i64 d)], []) ∧ (Lit.int .i64 s).wf = true ∧ (Lit.int .i64 d).wf = true := by
  obtain ⟨y0, y1, m, rfl, hl, q0, q1⟩ := trod_struct2 Tryz.underlying24 h
  rw [rgCell_c] at hl
  match cs, hl with
  | [c0, c1], _ =>
    have r0 : DataW.trod enc Tryz.prog w base spare held m 3 [c0] = some y0 := by simpa [cIntS] using q0
    have r1 : DataW.trod enc Tryz.prog w base spare held m 3 [c1] = some y1 := by simpa [cIntS] using q1
    obtain ⟨a0, e0, rfl, w0⟩ := DataW.trod_int Tryz.underlying3 r0
    obtain ⟨a1, e1, rfl, w1⟩ := DataW.trod_int Tryz.underlying3 r1
    simp at e0 e1
    subst e0 e1
    exact ⟨a0, a1, rfl, by simp, w0, w1⟩
set_option maxRecDepth 100000 in
theorem rgCell_mk {s d : Int} (w0 : (Lit.int .i64 s).wf = true) (w1 : (Lit.int .i64 d).wf = true) :
    DataW.trod enc Tryz.prog w base spare held 2 24 [.int .i64 s, .int .i64 d] = some (.agg [.lit (.int .i64 s), .lit (.int .i64 d)], []) := by
  have t0 : DataW.trod enc Tryz.prog w base spare held 1 3 [.int .i64 s] = some (.lit (.int .i64 s), []) := trod_int_mk 0 Tryz.underlying3 w0
  have t1 : DataW.trod enc Tryz.prog w base spare held 1 3 [.int .i64 d] = some (.lit (.int .i64 d), []) := trod_int_mk 0 Tryz.underlying3 w1
  exact trod_struct2_mk (n := 1) (cs := [.int .i64 s, .int .i64 d]) Tryz.underlying24 (by simp [rgCell_c]) (by simpa [cIntS] using t0) (by simpa [cIntS] using t1)
end
set_option maxRecDepth 100000 in
theorem openRgs {H : Type} {enc : TypeId × Value → H} {W : World} {r : Reach} {b0 : Nat} {v : Value} {d : DataW H} {p : List MemPlace} (hv : Value.okWide Tryz.prog W r b0 56 v) (h : DataW.Trod enc Tryz.prog W 0 (fun _ => true) true 56 v d p) :
    ∃ (L : List Rg) (A : Option Addr) (cap : Nat), v = .slice A L.length cap ∧ SlRows rgV 2 W A L ∧ (A = none → cap = 0) ∧ L.length ≤ cap ∧ cap ≤ maxLen ∧
      (∀ W', Below W.heap.size W W' → DataW.Trod enc Tryz.prog W' 0 (fun b => decide (b < W.heap.size)) true 56 v d p) := by
  obtain ⟨L, A, cap, h1, h2, _, h3, h4, h5, h6⟩ := openRows (f := rgV) (n := 2) (rd := fun g => .agg [.lit (.int .i64 g.lo), .lit (.int .i64 g.hi)]) (wf := fun g => (Lit.int .i64 g.lo).wf = true ∧ (Lit.int .i64 g.hi).wf = true) 2 Tryz.underlying56 rgCell_c (by decide) (fun _ => rfl)
    (fun h => by
      obtain ⟨s, d, rfl, rfl, w0, w1⟩ := rgCell h
      exact ⟨⟨s, d⟩, rfl, rfl, w0, w1⟩)
    (fun hw => rgCell_mk hw.1 hw.2) (by obtain ⟨a, l, c, h⟩ := okWide_slice Tryz.underlying56 hv; exact ⟨a, l, c, h⟩) h
  exact ⟨L, A, cap, h1, h2, h3, h4, h5, h6⟩
end Go.Proofs.YtallnjehhoengaaGreat
