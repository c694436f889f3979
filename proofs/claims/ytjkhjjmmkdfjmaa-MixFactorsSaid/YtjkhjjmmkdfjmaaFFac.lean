/- Tables of factors as lists in memory; what mix.CheckFactors returns. -/
import Derived.Test.YtjkhjjmmkdfjmaaRows2
import Derived.Test.YtjkhjjmmkdfjmaaFNamed
import Derived.Laws.AppendOwnNone
import Derived.Outline
namespace Go.Proofs.Ytjkhjjmmkdfjmaa
open Go.ChangeShapes Go.WideShapes Go.ChangeAt Go.RowKit Go.Joins Go.Deep
set_option linter.unusedVariables false
set_option linter.unusedSimpArgs false
attribute [local go_sem ↓] Go.wp_at_zero Go.wp_at_succ
/-- A row of a table: a pressure, and the factor there, from l to u. -/
structure Fc where
  p : Int
  l : Int
  u : Int
instance : Inhabited Fc := ⟨⟨0, 0, 0⟩⟩
def fcV (g : Fc) : List Value := [.int .i64 g.p, .int .i64 g.l, .int .i64 g.u]
def fcD {H : Type} (g : Fc) : DataW H := .agg [.lit (.int .i64 g.p), .agg [.lit (.int .i64 g.l), .lit (.int .i64 g.u)]]
def fcW (g : Fc) : Prop := (Lit.int .i64 g.p).wf = true ∧ (Lit.int .i64 g.l).wf = true ∧ (Lit.int .i64 g.u).wf = true
theorem fcN : Try.prog.cellsOf 151 = 3 := by kernel_rfl
theorem fcR : Try.prog.cellsOf 55 = 2 := by kernel_rfl
theorem fcI : Try.prog.cellsOf 3 = 1 := by kernel_rfl
section
variable {H : Type} {enc : TypeId × Value → H} {w : World} {base : Nat} {spare : Nat → Bool} {held : Bool}
set_option maxRecDepth 100000 in
theorem fcRange {n : Nat} {c0 c1 : Value} {x : DataW H × List MemPlace} (h : DataW.trod enc Try.prog w base spare held n 55 [c0, c1] = some x) :
    ∃ o p : Int, c0 = .int .i64 o ∧ c1 = .int .i64 p ∧ x = (.agg [.lit (.int .i64 o), .lit (.int .i64 p)], []) ∧ (Lit.int .i64 o).wf = true ∧ (Lit.int .i64 p).wf = true := by
  obtain ⟨z0, z1, m', rfl, hl', t0, t1⟩ := trod_struct2 Try.underlying55 h
  have s0 : DataW.trod enc Try.prog w base spare held m' 3 [c0] = some z0 := by simpa [fcI] using t0
  have s1 : DataW.trod enc Try.prog w base spare held m' 3 [c1] = some z1 := by simpa [fcI] using t1
  obtain ⟨a0, e0, rfl, w0⟩ := DataW.trod_int Try.underlying3 s0
  obtain ⟨a1, e1, rfl, w1⟩ := DataW.trod_int Try.underlying3 s1
  simp at e0 e1
  subst e0 e1
  exact ⟨a0, a1, rfl, rfl, by simp, w0, w1⟩
set_option maxRecDepth 100000 in
theorem fcCell {n : Nat} {cs : List Value} {x : DataW H × List MemPlace} (h : DataW.trod enc Try.prog w base spare held n 151 cs = some x) :
    ∃ g : Fc, cs = fcV g ∧ x = (fcD g, []) ∧ fcW g := by
  obtain ⟨y0, y1, m, rfl, hl, q0, q1⟩ := trod_struct2 Try.underlying151 h
  rw [fcN] at hl
  match cs, hl with
  | [c0, c1, c2], _ =>
    have r0 : DataW.trod enc Try.prog w base spare held m 3 [c0] = some y0 := by simpa [fcI] using q0
    have r1 : DataW.trod enc Try.prog w base spare held m 55 [c1, c2] = some y1 := by simpa [fcR] using q1
    obtain ⟨a, e0, rfl, w0⟩ := DataW.trod_int Try.underlying3 r0
    simp at e0
    subst e0
    obtain ⟨c, d, rfl, rfl, rfl, w2, w3⟩ := fcRange r1
    exact ⟨⟨a, c, d⟩, rfl, by simp [fcD], w0, w2, w3⟩
set_option maxRecDepth 100000 in
theorem fcCell_mk {g : Fc} (hw : fcW g) : DataW.trod enc Try.prog w base spare held 3 151 (fcV g) = some (fcD g, []) := by
  obtain ⟨w0, w1, w2⟩ := hw
  have t0 : DataW.trod enc Try.prog w base spare held 2 3 [.int .i64 g.p] = some (.lit (.int .i64 g.p), []) := trod_int_mk 1 Try.underlying3 w0
  have t1 : DataW.trod enc Try.prog w base spare held 1 3 [.int .i64 g.l] = some (.lit (.int .i64 g.l), []) := trod_int_mk 0 Try.underlying3 w1
  have t2 : DataW.trod enc Try.prog w base spare held 1 3 [.int .i64 g.u] = some (.lit (.int .i64 g.u), []) := trod_int_mk 0 Try.underlying3 w2
  have g1 : DataW.trod enc Try.prog w base spare held 2 55 [.int .i64 g.l, .int .i64 g.u] = some (.agg [.lit (.int .i64 g.l), .lit (.int .i64 g.u)], []) :=
    trod_struct2_mk (n := 1) (cs := [.int .i64 g.l, .int .i64 g.u]) Try.underlying55 (by simp [fcR]) (by simpa [fcI] using t1) (by simpa [fcI] using t2)
  exact trod_struct2_mk (n := 2) (cs := [.int .i64 g.p, .int .i64 g.l, .int .i64 g.u]) Try.underlying151 (by simp [fcN]) (by simpa [fcI] using t0) (by simpa [fcR] using g1)
end
set_option maxRecDepth 100000 in
theorem openFcs {H : Type} {enc : TypeId × Value → H} {W : World} {r : Reach} {b0 : Nat} {v : Value} {d : DataW H} {p : List MemPlace} (hv : Value.okWide Try.prog W r b0 93 v) (h : DataW.Trod enc Try.prog W 0 (fun _ => true) true 93 v d p) :
    ∃ (L : List Fc) (A : Option Addr) (cap : Nat), v = .slice A L.length cap ∧ SlRows fcV 3 W A L ∧ (A = none → cap = 0) ∧ L.length ≤ cap ∧ cap ≤ maxLen ∧
      (∀ W', Below W.heap.size W W' → DataW.Trod enc Try.prog W' 0 (fun b => decide (b < W.heap.size)) true 93 v d p) := by
  obtain ⟨L, A, cap, h1, h2, _, h3, h4, h5, h6⟩ := openRows (f := fcV) (rd := fcD) (wf := fcW) 3 Try.underlying93 fcN (by decide) (fun _ => rfl) (fun h => fcCell h) (fun h => fcCell_mk h) (okWide_slice Try.underlying93 hv) h
  exact ⟨L, A, cap, h1, h2, h3, h4, h5, h6⟩
/-- The cells of a row. -/
theorem fc_at {w : World} {b off : Nat} {L : List Fc} (h : RowsAt fcV 3 w b off L) {k : Nat} (hk : k < L.length) : w.cell? ⟨b, off + k * 3, none⟩ = some (.int .i64 L[k].p) ∧ w.cell? ⟨b, off + k * 3 + 1, none⟩ = some (.int .i64 L[k].l) ∧ w.cell? ⟨b, off + k * 3 + 2, none⟩ = some (.int .i64 L[k].u) :=
  ⟨h k hk 0 (by omega), h k hk 1 (by omega), h k hk 2 (by omega)⟩
set_option maxRecDepth 100000 in
/-- The error of a row behind a pressure; of rows. -/
def rowE (b : Int) (g : Fc) : Int := if inB g.p 0 400000 = true then if inB g.l 500 2000 = true then if inB g.u 500 2000 = true then (if g.u < g.l ∨ g.p ≤ b then 9 else 0) else 2 else 2 else 2
def facE : Int → List Fc → Int
  | _, [] => 0
  | b, g :: r => if rowE b g = 0 then facE g.p r else rowE b g
def ctE (L : List Fc) : Int := if L.length = 0 then 10 else if 20 < L.length then 8 else facE (-1) L
set_option maxRecDepth 100000 in
theorem rowE_ok {b : Int} {g : Fc} (h : rowE b g = 0) : (0 ≤ g.p ∧ g.p ≤ 400000) ∧ (500 ≤ g.l ∧ g.l ≤ g.u ∧ g.u ≤ 2000) ∧ b < g.p := by
  unfold rowE at h
  rcases inB_cases g.p 0 400000 with h1 | h1 <;> rcases inB_cases g.l 500 2000 with h2 | h2 <;> rcases inB_cases g.u 500 2000 with h3 | h3 <;> simp only [h1, h2, h3] at h <;> simp at h
  rw [inB_iff] at h1 h2 h3
  omega
theorem facE_ok {b : Int} {L : List Fc} (h : facE b L = 0) : ∀ k, (hk : k < L.length) → (0 ≤ L[k].p ∧ L[k].p ≤ 400000) ∧ (500 ≤ L[k].l ∧ L[k].l ≤ L[k].u ∧ L[k].u ≤ 2000) ∧ (b < L[k].p) ∧ ∀ j, (hj : j < k) → (L[j]'(by omega)).p < L[k].p := by
  induction L generalizing b with
  | nil => intro k hk; simp at hk
  | cons g r ih =>
    unfold facE at h
    by_cases h0 : rowE b g = 0
    · rw [if_pos h0] at h
      obtain ⟨o1, o2, o3⟩ := rowE_ok h0
      intro k hk
      cases k with
      | zero => exact ⟨o1, o2, o3, fun j hj => by omega⟩
      | succ k =>
        obtain ⟨q1, q2, q3, q4⟩ := ih h k (by simpa using hk)
        refine ⟨q1, q2, by simp only [List.getElem_cons_succ]; omega, fun j hj => ?_⟩
        cases j with
        | zero => simpa using q3
        | succ j => simpa using q4 j (by omega)
    · rw [if_neg h0] at h; exact absurd h h0
theorem BelowE.setc (x N : Nat) (w : World) (i : Nat) (v : Value) : BelowE x N w (w.setCell ⟨x, i, none⟩ v) :=
  ⟨rfl, rfl, rfl, by simp [World.setCell], fun k _ h => Below.heap_setCell _ _ _ _ h⟩
theorem RowsAt.belowE {α : Type} {f : α → List Value} {n : Nat} {w w' : World} {b off : Nat} {L : List α} (h : RowsAt f n w b off L) {x N : Nat} (hb : BelowE x N w w') (hlt : b < N) (hx : b ≠ x) : RowsAt f n w' b off L := by
  intro k hk i hi
  rw [← h k hk i hi]
  exact hb.cell hlt hx
/-- A row was looked at: its pressure is kept. -/
def RowStep (x : Nat) (p E : Int) (w : World) (e : Ending) (w' : World) : Prop := e = .returned (.int .i64 E) ∧ w'.cell? ⟨x, 0, none⟩ = some (.int .i64 p) ∧ (∀ j, w'.frozen? ⟨x, j, none⟩ = false) ∧ BelowE x w.heap.size w w'
set_option maxHeartbeats 1000000 in
set_option maxRecDepth 100000 in
theorem fcStep_bad (p l u b : Int) (x : Nat) (w : World) (hx : x < w.heap.size) (hb : w.cell? ⟨x, 0, none⟩ = some (.int .i64 b)) (hf : ∀ j, w.frozen? ⟨x, j, none⟩ = false) (e1 e2 e3 : Int) (h1 : Hid (rngE p 0 400000 = e1)) (h2 : Hid (rngE l 500 2000 = e2)) (h3 : Hid (rngE u 500 2000 = e3)) (hF : Hid (firE [e1, e2, e3] = 2)) : Calls Try.prog 87 #[.agg #[.int .i64 p, .int .i64 l, .int .i64 u], .pointer (some ⟨x, 0, none⟩)] w (RowStep x p 2 w) := by
  have n1 : x ≠ w.heap.size := by omega
  have n2 : x ≠ w.heap.size + 1 := by omega
  have n3 : w.heap.size ≠ x := by omega
  have n4 : w.heap.size + 1 ≠ x := by omega
  have g1 := h1.out
  have g2 := h2.out
  have g3 := h3.out
  go_enter Try.func87, Try.ntmps87
  go_upto_region 1 with (fail)
  refine wp_region_held_drew (S := (fun w' => w'.cell? ⟨w.heap.size, 0, none⟩ = some (.int .i64 p) ∧ w'.cell? ⟨w.heap.size, 1, none⟩ = some (.int .i64 l) ∧ w'.cell? ⟨w.heap.size, 2, none⟩ = some (.int .i64 u))) (by kernel_rfl) (by simp [go_sem, World.cell?_alloc_past, *]) (fun hHeld => ?_)
  refine tkH 0 ⟨some 5, _, _, _, _, _⟩ ?_ rfl ?_ (by assumption) ?_
  rotate_left
  · (intro w hSw; (try dsimp only at hSw); go_simp; all_goals with_reducible rfl)
  try simp only [Act.put, sA, sB, sC]
  refine tkH 1 ⟨some 6, _, _, _, _, _⟩ ?_ rfl ?_ (by assumption) ?_
  rotate_left
  · (intro w hSw; (try dsimp only at hSw); go_simp; all_goals with_reducible rfl)
  try simp only [Act.put, sA, sB, sC]
  refine tkH 3 ⟨some 8, _, _, _, _, _⟩ ?_ rfl ?_ (by assumption) ?_
  rotate_left
  · (intro w hSw; (try dsimp only at hSw); go_simp; all_goals with_reducible rfl)
  try simp only [Act.put, sA, sB, sC]
  refine tkH 4 ⟨some 9, _, _, _, _, _⟩ ?_ rfl ?_ (by assumption) ?_
  rotate_left
  · (intro w hSw; (try dsimp only at hSw); go_simp; all_goals with_reducible rfl)
  try simp only [Act.put, sA, sB, sC]
  refine tkH 5 ⟨some 10, _, _, _, _, _⟩ ?_ rfl ?_ (by assumption) ?_
  rotate_left
  · (intro w hSw; (try dsimp only at hSw); go_simp; all_goals with_reducible rfl)
  try simp only [Act.put, sA, sB, sC]
  refine tkH 7 ⟨some 12, _, _, _, _, _⟩ ?_ rfl ?_ (by assumption) ?_
  rotate_left
  · (intro w hSw; (try dsimp only at hSw); go_simp; all_goals with_reducible rfl)
  try simp only [Act.put, sA, sB, sC]
  refine tkH 8 ⟨some 13, _, _, _, _, _⟩ ?_ rfl ?_ (by assumption) ?_
  rotate_left
  · (intro w hSw; (try dsimp only at hSw); go_simp; all_goals with_reducible rfl)
  try simp only [Act.put, sA, sB, sC]
  refine tkH 9 ⟨some 14, _, _, _, _, _⟩ ?_ rfl ?_ (by assumption) ?_
  rotate_left
  · (intro w hSw; (try dsimp only at hSw); go_simp; all_goals with_reducible rfl)
  try simp only [Act.put, sA, sB, sC]
  refine wpAnyH_ready (rs := [2]) (by kernel_rfl) (by simp) ?_
  refine AllReadyH.cons rfl (fun K hK => ?_) AllReadyH.nil
  go_simp
  refine (cRange_any _ _ _ _).mono ?_
  rintro e wq ⟨rfl, rfl⟩
  go_wp2_with fail
  refine hK.out _ _ (by simp [go_sem, World.cell?_alloc_past, *]) (fun hHeld => ?_)
  clear hK K
  try simp only [Act.put, sA, sB, sC]
  refine wpAnyH_ready (rs := [6]) (by kernel_rfl) (by simp) ?_
  refine AllReadyH.cons rfl (fun K hK => ?_) AllReadyH.nil
  go_simp
  refine (cRange_any _ _ _ _).mono ?_
  rintro e wq ⟨rfl, rfl⟩
  go_wp2_with fail
  refine hK.out _ _ (by simp [go_sem, World.cell?_alloc_past, *]) (fun hHeld => ?_)
  clear hK K
  try simp only [Act.put, sA, sB, sC]
  refine wpAnyH_ready (rs := [10]) (by kernel_rfl) (by simp) ?_
  refine AllReadyH.cons rfl (fun K hK => ?_) AllReadyH.nil
  go_simp
  refine (cRange_any _ _ _ _).mono ?_
  rintro e wq ⟨rfl, rfl⟩
  go_wp2_with fail
  refine hK.out _ _ (by simp [go_sem, World.cell?_alloc_past, *]) (fun hHeld => ?_)
  clear hK K
  try simp only [Act.put, sA, sB, sC]
  refine wpAnyH_ready (rs := [11]) (by kernel_rfl) (by simp) ?_
  refine AllReadyH.cons rfl (fun K hK => ?_) AllReadyH.nil
  go_simp
  go_wp2_with fail
  refine hK.out _ _ (by simp [go_sem, World.cell?_alloc_past, *]) (fun hHeld => ?_)
  clear hK K
  try simp only [Act.put, sA, sB, sC]
  refine wpAnyH_ready (rs := [12]) (by kernel_rfl) (by simp) ?_
  refine AllReadyH.cons rfl (fun K hK => ?_) AllReadyH.nil
  go_simp
  refine (cF3x e1 e2 e3 2 _ _ hF (by simp [go_sem]) (by simp [go_sem]) (by simp [go_sem])).mono ?_
  rintro e wq ⟨rfl, rfl⟩
  go_wp2_with fail
  refine hK.out _ _ (by simp [go_sem, World.cell?_alloc_past, *]) (fun hHeld => ?_)
  clear hK K
  try simp only [Act.put, sA, sB, sC]
  refine tkH 13 ⟨some 4, _, _, _, _, _⟩ ?_ rfl ?_ (by assumption) ?_
  rotate_left
  · (intro w hSw; (try dsimp only at hSw); go_simp; all_goals with_reducible rfl)
  try simp only [Act.put, sA, sB, sC]
  refine wpAnyH_done (by kernel_rfl) ?_ _
  go_wp2
  go_ret
  refine ⟨rfl, by simp [go_sem, World.cell?_alloc_past, *], by intro j; simp [go_sem, *], ?_⟩
  exact (BelowE.setc x w.heap.size w 0 _).trans (BelowE.of (n := w.heap.size) (((Below.refl _ _).alloc (by simp) _).alloc (by simp) _).drew (Nat.le_refl _))
set_option maxHeartbeats 1000000 in
set_option maxRecDepth 100000 in
theorem fcStep_ord1 (p l u b : Int) (x : Nat) (w : World) (hx : x < w.heap.size) (hb : w.cell? ⟨x, 0, none⟩ = some (.int .i64 b)) (hf : ∀ j, w.frozen? ⟨x, j, none⟩ = false) (h1 : Hid (rngE p 0 400000 = 0)) (h2 : Hid (rngE l 500 2000 = 0)) (h3 : Hid (rngE u 500 2000 = 0)) (h4 : u < l) : Calls Try.prog 87 #[.agg #[.int .i64 p, .int .i64 l, .int .i64 u], .pointer (some ⟨x, 0, none⟩)] w (RowStep x p 9 w) := by
  have n1 : x ≠ w.heap.size := by omega
  have n2 : x ≠ w.heap.size + 1 := by omega
  have n3 : w.heap.size ≠ x := by omega
  have n4 : w.heap.size + 1 ≠ x := by omega
  have g1 := h1.out
  have g2 := h2.out
  have g3 := h3.out
  have hF : Hid (firE [0, 0, 0] = 0) := Lib.hid rfl
  go_enter Try.func87, Try.ntmps87
  go_upto_region 1 with (fail)
  refine wp_region_held_drew (S := (fun w' => w'.cell? ⟨w.heap.size, 0, none⟩ = some (.int .i64 p) ∧ w'.cell? ⟨w.heap.size, 1, none⟩ = some (.int .i64 l) ∧ w'.cell? ⟨w.heap.size, 2, none⟩ = some (.int .i64 u))) (by kernel_rfl) (by simp [go_sem, World.cell?_alloc_past, *]) (fun hHeld => ?_)
  refine tkH 0 ⟨some 5, _, _, _, _, _⟩ ?_ rfl ?_ (by assumption) ?_
  rotate_left
  · (intro w hSw; (try dsimp only at hSw); go_simp; all_goals with_reducible rfl)
  try simp only [Act.put, sA, sB, sC]
  refine tkH 1 ⟨some 6, _, _, _, _, _⟩ ?_ rfl ?_ (by assumption) ?_
  rotate_left
  · (intro w hSw; (try dsimp only at hSw); go_simp; all_goals with_reducible rfl)
  try simp only [Act.put, sA, sB, sC]
  refine tkH 3 ⟨some 8, _, _, _, _, _⟩ ?_ rfl ?_ (by assumption) ?_
  rotate_left
  · (intro w hSw; (try dsimp only at hSw); go_simp; all_goals with_reducible rfl)
  try simp only [Act.put, sA, sB, sC]
  refine tkH 4 ⟨some 9, _, _, _, _, _⟩ ?_ rfl ?_ (by assumption) ?_
  rotate_left
  · (intro w hSw; (try dsimp only at hSw); go_simp; all_goals with_reducible rfl)
  try simp only [Act.put, sA, sB, sC]
  refine tkH 5 ⟨some 10, _, _, _, _, _⟩ ?_ rfl ?_ (by assumption) ?_
  rotate_left
  · (intro w hSw; (try dsimp only at hSw); go_simp; all_goals with_reducible rfl)
  try simp only [Act.put, sA, sB, sC]
  refine tkH 7 ⟨some 12, _, _, _, _, _⟩ ?_ rfl ?_ (by assumption) ?_
  rotate_left
  · (intro w hSw; (try dsimp only at hSw); go_simp; all_goals with_reducible rfl)
  try simp only [Act.put, sA, sB, sC]
  refine tkH 8 ⟨some 13, _, _, _, _, _⟩ ?_ rfl ?_ (by assumption) ?_
  rotate_left
  · (intro w hSw; (try dsimp only at hSw); go_simp; all_goals with_reducible rfl)
  try simp only [Act.put, sA, sB, sC]
  refine tkH 9 ⟨some 14, _, _, _, _, _⟩ ?_ rfl ?_ (by assumption) ?_
  rotate_left
  · (intro w hSw; (try dsimp only at hSw); go_simp; all_goals with_reducible rfl)
  try simp only [Act.put, sA, sB, sC]
  refine wpAnyH_ready (rs := [2]) (by kernel_rfl) (by simp) ?_
  refine AllReadyH.cons rfl (fun K hK => ?_) AllReadyH.nil
  go_simp
  refine (cRange_any _ _ _ _).mono ?_
  rintro e wq ⟨rfl, rfl⟩
  go_wp2_with fail
  refine hK.out _ _ (by simp [go_sem, World.cell?_alloc_past, *]) (fun hHeld => ?_)
  clear hK K
  try simp only [Act.put, sA, sB, sC]
  refine wpAnyH_ready (rs := [6]) (by kernel_rfl) (by simp) ?_
  refine AllReadyH.cons rfl (fun K hK => ?_) AllReadyH.nil
  go_simp
  refine (cRange_any _ _ _ _).mono ?_
  rintro e wq ⟨rfl, rfl⟩
  go_wp2_with fail
  refine hK.out _ _ (by simp [go_sem, World.cell?_alloc_past, *]) (fun hHeld => ?_)
  clear hK K
  try simp only [Act.put, sA, sB, sC]
  refine wpAnyH_ready (rs := [10]) (by kernel_rfl) (by simp) ?_
  refine AllReadyH.cons rfl (fun K hK => ?_) AllReadyH.nil
  go_simp
  refine (cRange_any _ _ _ _).mono ?_
  rintro e wq ⟨rfl, rfl⟩
  go_wp2_with fail
  refine hK.out _ _ (by simp [go_sem, World.cell?_alloc_past, *]) (fun hHeld => ?_)
  clear hK K
  try simp only [Act.put, sA, sB, sC]
  refine wpAnyH_ready (rs := [11]) (by kernel_rfl) (by simp) ?_
  refine AllReadyH.cons rfl (fun K hK => ?_) AllReadyH.nil
  go_simp
  go_wp2_with fail
  refine hK.out _ _ (by simp [go_sem, World.cell?_alloc_past, *]) (fun hHeld => ?_)
  clear hK K
  try simp only [Act.put, sA, sB, sC]
  refine wpAnyH_ready (rs := [12]) (by kernel_rfl) (by simp) ?_
  refine AllReadyH.cons rfl (fun K hK => ?_) AllReadyH.nil
  go_simp
  refine (cF3x 0 0 0 0 _ _ hF (by simp [go_sem]) (by simp [go_sem]) (by simp [go_sem])).mono ?_
  rintro e wq ⟨rfl, rfl⟩
  go_wp2_with fail
  refine hK.out _ _ (by simp [go_sem, World.cell?_alloc_past, *]) (fun hHeld => ?_)
  clear hK K
  try simp only [Act.put, sA, sB, sC]
  refine tkH 13 ⟨some 4, _, _, _, _, _⟩ ?_ rfl ?_ (by assumption) ?_
  rotate_left
  · (intro w hSw; (try dsimp only at hSw); go_simp; all_goals with_reducible rfl)
  try simp only [Act.put, sA, sB, sC]
  refine wpAnyH_done (by kernel_rfl) ?_ _
  go_wp2
  go_ret
  refine ⟨rfl, by simp [go_sem, World.cell?_alloc_past, *], by intro j; simp [go_sem, *], ?_⟩
  exact (BelowE.setc x w.heap.size w 0 _).trans (BelowE.of (n := w.heap.size) (((Below.refl _ _).alloc (by simp) _).alloc (by simp) _).drew (Nat.le_refl _))
set_option maxHeartbeats 1000000 in
set_option maxRecDepth 100000 in
theorem fcStep_ord2 (p l u b : Int) (x : Nat) (w : World) (hx : x < w.heap.size) (hb : w.cell? ⟨x, 0, none⟩ = some (.int .i64 b)) (hf : ∀ j, w.frozen? ⟨x, j, none⟩ = false) (h1 : Hid (rngE p 0 400000 = 0)) (h2 : Hid (rngE l 500 2000 = 0)) (h3 : Hid (rngE u 500 2000 = 0)) (h4 : ¬ u < l) (h5 : p ≤ b) : Calls Try.prog 87 #[.agg #[.int .i64 p, .int .i64 l, .int .i64 u], .pointer (some ⟨x, 0, none⟩)] w (RowStep x p 9 w) := by
  have n1 : x ≠ w.heap.size := by omega
  have n2 : x ≠ w.heap.size + 1 := by omega
  have n3 : w.heap.size ≠ x := by omega
  have n4 : w.heap.size + 1 ≠ x := by omega
  have g1 := h1.out
  have g2 := h2.out
  have g3 := h3.out
  have hF : Hid (firE [0, 0, 0] = 0) := Lib.hid rfl
  go_enter Try.func87, Try.ntmps87
  go_upto_region 1 with (fail)
  refine wp_region_held_drew (S := (fun w' => w'.cell? ⟨w.heap.size, 0, none⟩ = some (.int .i64 p) ∧ w'.cell? ⟨w.heap.size, 1, none⟩ = some (.int .i64 l) ∧ w'.cell? ⟨w.heap.size, 2, none⟩ = some (.int .i64 u))) (by kernel_rfl) (by simp [go_sem, World.cell?_alloc_past, *]) (fun hHeld => ?_)
  refine tkH 0 ⟨some 5, _, _, _, _, _⟩ ?_ rfl ?_ (by assumption) ?_
  rotate_left
  · (intro w hSw; (try dsimp only at hSw); go_simp; all_goals with_reducible rfl)
  try simp only [Act.put, sA, sB, sC]
  refine tkH 1 ⟨some 6, _, _, _, _, _⟩ ?_ rfl ?_ (by assumption) ?_
  rotate_left
  · (intro w hSw; (try dsimp only at hSw); go_simp; all_goals with_reducible rfl)
  try simp only [Act.put, sA, sB, sC]
  refine tkH 3 ⟨some 8, _, _, _, _, _⟩ ?_ rfl ?_ (by assumption) ?_
  rotate_left
  · (intro w hSw; (try dsimp only at hSw); go_simp; all_goals with_reducible rfl)
  try simp only [Act.put, sA, sB, sC]
  refine tkH 4 ⟨some 9, _, _, _, _, _⟩ ?_ rfl ?_ (by assumption) ?_
  rotate_left
  · (intro w hSw; (try dsimp only at hSw); go_simp; all_goals with_reducible rfl)
  try simp only [Act.put, sA, sB, sC]
  refine tkH 5 ⟨some 10, _, _, _, _, _⟩ ?_ rfl ?_ (by assumption) ?_
  rotate_left
  · (intro w hSw; (try dsimp only at hSw); go_simp; all_goals with_reducible rfl)
  try simp only [Act.put, sA, sB, sC]
  refine tkH 7 ⟨some 12, _, _, _, _, _⟩ ?_ rfl ?_ (by assumption) ?_
  rotate_left
  · (intro w hSw; (try dsimp only at hSw); go_simp; all_goals with_reducible rfl)
  try simp only [Act.put, sA, sB, sC]
  refine tkH 8 ⟨some 13, _, _, _, _, _⟩ ?_ rfl ?_ (by assumption) ?_
  rotate_left
  · (intro w hSw; (try dsimp only at hSw); go_simp; all_goals with_reducible rfl)
  try simp only [Act.put, sA, sB, sC]
  refine tkH 9 ⟨some 14, _, _, _, _, _⟩ ?_ rfl ?_ (by assumption) ?_
  rotate_left
  · (intro w hSw; (try dsimp only at hSw); go_simp; all_goals with_reducible rfl)
  try simp only [Act.put, sA, sB, sC]
  refine wpAnyH_ready (rs := [2]) (by kernel_rfl) (by simp) ?_
  refine AllReadyH.cons rfl (fun K hK => ?_) AllReadyH.nil
  go_simp
  refine (cRange_any _ _ _ _).mono ?_
  rintro e wq ⟨rfl, rfl⟩
  go_wp2_with fail
  refine hK.out _ _ (by simp [go_sem, World.cell?_alloc_past, *]) (fun hHeld => ?_)
  clear hK K
  try simp only [Act.put, sA, sB, sC]
  refine wpAnyH_ready (rs := [6]) (by kernel_rfl) (by simp) ?_
  refine AllReadyH.cons rfl (fun K hK => ?_) AllReadyH.nil
  go_simp
  refine (cRange_any _ _ _ _).mono ?_
  rintro e wq ⟨rfl, rfl⟩
  go_wp2_with fail
  refine hK.out _ _ (by simp [go_sem, World.cell?_alloc_past, *]) (fun hHeld => ?_)
  clear hK K
  try simp only [Act.put, sA, sB, sC]
  refine wpAnyH_ready (rs := [10]) (by kernel_rfl) (by simp) ?_
  refine AllReadyH.cons rfl (fun K hK => ?_) AllReadyH.nil
  go_simp
  refine (cRange_any _ _ _ _).mono ?_
  rintro e wq ⟨rfl, rfl⟩
  go_wp2_with fail
  refine hK.out _ _ (by simp [go_sem, World.cell?_alloc_past, *]) (fun hHeld => ?_)
  clear hK K
  try simp only [Act.put, sA, sB, sC]
  refine wpAnyH_ready (rs := [11]) (by kernel_rfl) (by simp) ?_
  refine AllReadyH.cons rfl (fun K hK => ?_) AllReadyH.nil
  go_simp
  go_wp2_with fail
  refine hK.out _ _ (by simp [go_sem, World.cell?_alloc_past, *]) (fun hHeld => ?_)
  clear hK K
  try simp only [Act.put, sA, sB, sC]
  refine wpAnyH_ready (rs := [12]) (by kernel_rfl) (by simp) ?_
  refine AllReadyH.cons rfl (fun K hK => ?_) AllReadyH.nil
  go_simp
  refine (cF3x 0 0 0 0 _ _ hF (by simp [go_sem]) (by simp [go_sem]) (by simp [go_sem])).mono ?_
  rintro e wq ⟨rfl, rfl⟩
  go_wp2_with fail
  refine hK.out _ _ (by simp [go_sem, World.cell?_alloc_past, *]) (fun hHeld => ?_)
  clear hK K
  try simp only [Act.put, sA, sB, sC]
  refine tkH 13 ⟨some 4, _, _, _, _, _⟩ ?_ rfl ?_ (by assumption) ?_
  rotate_left
  · (intro w hSw; (try dsimp only at hSw); go_simp; all_goals with_reducible rfl)
  try simp only [Act.put, sA, sB, sC]
  refine wpAnyH_done (by kernel_rfl) ?_ _
  go_wp2
  go_ret
  refine ⟨rfl, by simp [go_sem, World.cell?_alloc_past, *], by intro j; simp [go_sem, *], ?_⟩
  exact (BelowE.setc x w.heap.size w 0 _).trans (BelowE.of (n := w.heap.size) (((Below.refl _ _).alloc (by simp) _).alloc (by simp) _).drew (Nat.le_refl _))
set_option maxHeartbeats 1000000 in
set_option maxRecDepth 100000 in
theorem fcStep_ok (p l u b : Int) (x : Nat) (w : World) (hx : x < w.heap.size) (hb : w.cell? ⟨x, 0, none⟩ = some (.int .i64 b)) (hf : ∀ j, w.frozen? ⟨x, j, none⟩ = false) (h1 : Hid (rngE p 0 400000 = 0)) (h2 : Hid (rngE l 500 2000 = 0)) (h3 : Hid (rngE u 500 2000 = 0)) (h4 : ¬ u < l) (h5 : ¬ p ≤ b) : Calls Try.prog 87 #[.agg #[.int .i64 p, .int .i64 l, .int .i64 u], .pointer (some ⟨x, 0, none⟩)] w (RowStep x p 0 w) := by
  have n1 : x ≠ w.heap.size := by omega
  have n2 : x ≠ w.heap.size + 1 := by omega
  have n3 : w.heap.size ≠ x := by omega
  have n4 : w.heap.size + 1 ≠ x := by omega
  have g1 := h1.out
  have g2 := h2.out
  have g3 := h3.out
  have hF : Hid (firE [0, 0, 0] = 0) := Lib.hid rfl
  go_enter Try.func87, Try.ntmps87
  go_upto_region 1 with (fail)
  refine wp_region_held_drew (S := (fun w' => w'.cell? ⟨w.heap.size, 0, none⟩ = some (.int .i64 p) ∧ w'.cell? ⟨w.heap.size, 1, none⟩ = some (.int .i64 l) ∧ w'.cell? ⟨w.heap.size, 2, none⟩ = some (.int .i64 u))) (by kernel_rfl) (by simp [go_sem, World.cell?_alloc_past, *]) (fun hHeld => ?_)
  refine tkH 0 ⟨some 5, _, _, _, _, _⟩ ?_ rfl ?_ (by assumption) ?_
  rotate_left
  · (intro w hSw; (try dsimp only at hSw); go_simp; all_goals with_reducible rfl)
  try simp only [Act.put, sA, sB, sC]
  refine tkH 1 ⟨some 6, _, _, _, _, _⟩ ?_ rfl ?_ (by assumption) ?_
  rotate_left
  · (intro w hSw; (try dsimp only at hSw); go_simp; all_goals with_reducible rfl)
  try simp only [Act.put, sA, sB, sC]
  refine tkH 3 ⟨some 8, _, _, _, _, _⟩ ?_ rfl ?_ (by assumption) ?_
  rotate_left
  · (intro w hSw; (try dsimp only at hSw); go_simp; all_goals with_reducible rfl)
  try simp only [Act.put, sA, sB, sC]
  refine tkH 4 ⟨some 9, _, _, _, _, _⟩ ?_ rfl ?_ (by assumption) ?_
  rotate_left
  · (intro w hSw; (try dsimp only at hSw); go_simp; all_goals with_reducible rfl)
  try simp only [Act.put, sA, sB, sC]
  refine tkH 5 ⟨some 10, _, _, _, _, _⟩ ?_ rfl ?_ (by assumption) ?_
  rotate_left
  · (intro w hSw; (try dsimp only at hSw); go_simp; all_goals with_reducible rfl)
  try simp only [Act.put, sA, sB, sC]
  refine tkH 7 ⟨some 12, _, _, _, _, _⟩ ?_ rfl ?_ (by assumption) ?_
  rotate_left
  · (intro w hSw; (try dsimp only at hSw); go_simp; all_goals with_reducible rfl)
  try simp only [Act.put, sA, sB, sC]
  refine tkH 8 ⟨some 13, _, _, _, _, _⟩ ?_ rfl ?_ (by assumption) ?_
  rotate_left
  · (intro w hSw; (try dsimp only at hSw); go_simp; all_goals with_reducible rfl)
  try simp only [Act.put, sA, sB, sC]
  refine tkH 9 ⟨some 14, _, _, _, _, _⟩ ?_ rfl ?_ (by assumption) ?_
  rotate_left
  · (intro w hSw; (try dsimp only at hSw); go_simp; all_goals with_reducible rfl)
  try simp only [Act.put, sA, sB, sC]
  refine wpAnyH_ready (rs := [2]) (by kernel_rfl) (by simp) ?_
  refine AllReadyH.cons rfl (fun K hK => ?_) AllReadyH.nil
  go_simp
  refine (cRange_any _ _ _ _).mono ?_
  rintro e wq ⟨rfl, rfl⟩
  go_wp2_with fail
  refine hK.out _ _ (by simp [go_sem, World.cell?_alloc_past, *]) (fun hHeld => ?_)
  clear hK K
  try simp only [Act.put, sA, sB, sC]
  refine wpAnyH_ready (rs := [6]) (by kernel_rfl) (by simp) ?_
  refine AllReadyH.cons rfl (fun K hK => ?_) AllReadyH.nil
  go_simp
  refine (cRange_any _ _ _ _).mono ?_
  rintro e wq ⟨rfl, rfl⟩
  go_wp2_with fail
  refine hK.out _ _ (by simp [go_sem, World.cell?_alloc_past, *]) (fun hHeld => ?_)
  clear hK K
  try simp only [Act.put, sA, sB, sC]
  refine wpAnyH_ready (rs := [10]) (by kernel_rfl) (by simp) ?_
  refine AllReadyH.cons rfl (fun K hK => ?_) AllReadyH.nil
  go_simp
  refine (cRange_any _ _ _ _).mono ?_
  rintro e wq ⟨rfl, rfl⟩
  go_wp2_with fail
  refine hK.out _ _ (by simp [go_sem, World.cell?_alloc_past, *]) (fun hHeld => ?_)
  clear hK K
  try simp only [Act.put, sA, sB, sC]
  refine wpAnyH_ready (rs := [11]) (by kernel_rfl) (by simp) ?_
  refine AllReadyH.cons rfl (fun K hK => ?_) AllReadyH.nil
  go_simp
  go_wp2_with fail
  refine hK.out _ _ (by simp [go_sem, World.cell?_alloc_past, *]) (fun hHeld => ?_)
  clear hK K
  try simp only [Act.put, sA, sB, sC]
  refine wpAnyH_ready (rs := [12]) (by kernel_rfl) (by simp) ?_
  refine AllReadyH.cons rfl (fun K hK => ?_) AllReadyH.nil
  go_simp
  refine (cF3x 0 0 0 0 _ _ hF (by simp [go_sem]) (by simp [go_sem]) (by simp [go_sem])).mono ?_
  rintro e wq ⟨rfl, rfl⟩
  go_wp2_with fail
  refine hK.out _ _ (by simp [go_sem, World.cell?_alloc_past, *]) (fun hHeld => ?_)
  clear hK K
  try simp only [Act.put, sA, sB, sC]
  refine tkH 13 ⟨some 4, _, _, _, _, _⟩ ?_ rfl ?_ (by assumption) ?_
  rotate_left
  · (intro w hSw; (try dsimp only at hSw); go_simp; all_goals with_reducible rfl)
  try simp only [Act.put, sA, sB, sC]
  refine wpAnyH_done (by kernel_rfl) ?_ _
  go_wp2
  go_ret
  refine ⟨rfl, by simp [go_sem, World.cell?_alloc_past, *], by intro j; simp [go_sem, *], ?_⟩
  exact (BelowE.setc x w.heap.size w 0 _).trans (BelowE.of (n := w.heap.size) (((Below.refl _ _).alloc (by simp) _).alloc (by simp) _).drew (Nat.le_refl _))
theorem fcStep_any (p l u b : Int) (x : Nat) (w : World) (E : Int) (hx : x < w.heap.size) (hb : w.cell? ⟨x, 0, none⟩ = some (.int .i64 b)) (hf : ∀ j, w.frozen? ⟨x, j, none⟩ = false) (hE : Hid (rowE b ⟨p, l, u⟩ = E)) : Calls Try.prog 87 #[.agg #[.int .i64 p, .int .i64 l, .int .i64 u], .pointer (some ⟨x, 0, none⟩)] w (RowStep x p E w) := by
  have he := hE.out
  unfold rowE at he
  simp only at he
  rcases inB_cases p 0 400000 with h1 | h1
  · rw [if_pos h1] at he
    rcases inB_cases l 500 2000 with h2 | h2
    · rw [if_pos h2] at he
      rcases inB_cases u 500 2000 with h3 | h3
      · rw [if_pos h3] at he
        by_cases h4 : u < l
        · rw [if_pos (Or.inl h4)] at he
          subst he
          exact fcStep_ord1 p l u b x w hx hb hf (Lib.hid (rngE_t h1)) (Lib.hid (rngE_t h2)) (Lib.hid (rngE_t h3)) h4
        · by_cases h5 : p ≤ b
          · rw [if_pos (Or.inr h5)] at he
            subst he
            exact fcStep_ord2 p l u b x w hx hb hf (Lib.hid (rngE_t h1)) (Lib.hid (rngE_t h2)) (Lib.hid (rngE_t h3)) h4 h5
          · rw [if_neg (by omega)] at he
            subst he
            exact fcStep_ok p l u b x w hx hb hf (Lib.hid (rngE_t h1)) (Lib.hid (rngE_t h2)) (Lib.hid (rngE_t h3)) h4 h5
      · rw [if_neg (by rw [h3]; exact Bool.false_ne_true)] at he
        subst he
        exact fcStep_bad p l u b x w hx hb hf 0 0 2 (Lib.hid (rngE_t h1)) (Lib.hid (rngE_t h2)) (Lib.hid (rngE_f h3)) (Lib.hid rfl)
    · rw [if_neg (by rw [h2]; exact Bool.false_ne_true)] at he
      subst he
      exact fcStep_bad p l u b x w hx hb hf 0 2 _ (Lib.hid (rngE_t h1)) (Lib.hid (rngE_f h2)) (Lib.hid rfl) (Lib.hid rfl)
  · rw [if_neg (by rw [h1]; exact Bool.false_ne_true)] at he
    subst he
    exact fcStep_bad p l u b x w hx hb hf 2 _ _ (Lib.hid (rngE_f h1)) (Lib.hid rfl) (Lib.hid rfl) (Lib.hid rfl)
theorem facE_at {b : Int} {L : List Fc} {k : Nat} (hk : k < L.length) : facE b (L.drop k) = if rowE b L[k] = 0 then facE L[k].p (L.drop (k + 1)) else rowE b L[k] := by
  rw [List.drop_eq_getElem_cons hk]; rfl
theorem fac1_is (i p l u b : Int) (c x : Nat) (w : World) (E : Int) (hc : w.cell? ⟨c, 0, none⟩ = some (.func (.func 87) #[] #[.pointer (some ⟨x, 0, none⟩)])) (hcl : c < w.heap.size) (hx : x < w.heap.size) (hb : w.cell? ⟨x, 0, none⟩ = some (.int .i64 b)) (hf : ∀ j, w.frozen? ⟨x, j, none⟩ = false) (hE : Hid (rowE b ⟨p, l, u⟩ = E)) :
    Calls Try.prog 110 #[.int .i64 i, .agg #[.int .i64 p, .int .i64 l, .int .i64 u], .pointer (some ⟨c, 0, none⟩)] w (RowStep x p E w) := by
  have o1 : c ≠ w.heap.size := by omega
  have nx : x ≠ w.heap.size := by omega
  go_enter Try.func110, Try.ntmps110
  go_wp2_with fail
  refine (fcStep_any p l u b x _ E (by simp; omega) (by simp [go_sem, World.cell?_alloc_past, *]) (by intro j; simp [go_sem, *]) hE).mono ?_
  rintro e w1 ⟨rfl, d0, d1, hE1⟩
  have hE2 : BelowE x w.heap.size w w1 := (BelowE.of ((Below.refl w.heap.size w).alloc (Nat.le_refl _) _) (Nat.le_refl _)).trans ⟨hE1.os, hE1.tape, hE1.output, hE1.size, fun i hi hn => hE1.block i (by simp; omega) hn⟩
  have HE2 := Lib.hid hE2
  clear hE1 hE2
  go_wp2
  go_ret
  exact ⟨rfl, d0, d1, HE2.out⟩
set_option maxRecDepth 100000 in
set_option maxHeartbeats 2000000 in
theorem numFac_any (L : List Fc) (b off cap c0' x : Nat) (E : Int) (w : World) (hl : L.length ≤ 1000000) (hlt : b < w.heap.size) (hL : Hid (RowsAt fcV 3 w b off L)) (hc : w.cell? ⟨c0', 0, none⟩ = some (.func (.func 87) #[] #[.pointer (some ⟨x, 0, none⟩)])) (hcl : c0' < w.heap.size) (hcx : c0' ≠ x) (hx : x < w.heap.size) (hbx : b ≠ x) (hb : w.cell? ⟨x, 0, none⟩ = some (.int .i64 (-1))) (hf : ∀ j, w.frozen? ⟨x, j, none⟩ = false) (hE : Hid (facE (-1) L = E)) :
    Calls Try.prog 109 #[.slice (some ⟨b, off, none⟩) L.length cap, .func (.func 110) #[] #[.pointer (some ⟨c0', 0, none⟩)]] w (NumE x E w) := by
  have HC := Lib.hid hc
  clear hc
  go_enter Try.func109, Try.ntmps109
  go_wp2
  go_loopw [11] (fun i wr => ∃ (k : Nat) (c : Int), k ≤ L.length ∧ i = .int .i64 k ∧ Hid (facE c (L.drop k) = E) ∧ wr.cell? ⟨x, 0, none⟩ = some (.int .i64 c) ∧ (∀ j, wr.frozen? ⟨x, j, none⟩ = false) ∧ Hid (BelowE x w.heap.size w wr)) (fun i _ => L.length - (intOf i).toNat)
  case atStart => exact ⟨0, -1, by omega, rfl, by rw [List.drop_zero]; exact hE, hb, hf, Lib.hid ⟨rfl, rfl, rfl, Nat.le_refl _, fun _ _ _ => rfl⟩⟩
  case round =>
    clear hb hf hE
    obtain ⟨k, c, hk, rfl, hz, hb, hf, HB⟩ := hrel
    have hsz := HB.out.size
    by_cases hkl : k < L.length
    · have kn : (k : Int) < (L.length : Int) := by omega
      obtain ⟨c0, c1, c2⟩ := fc_at (hL.out.belowE HB.out hlt hbx) hkl
      have he := hz.out
      rw [facE_at hkl] at he
      obtain ⟨p0, h0⟩ : ∃ x, Hid (L[k].p = x) := ⟨L[k].p, Lib.hid rfl⟩
      obtain ⟨p1, h1⟩ : ∃ x, Hid (L[k].l = x) := ⟨L[k].l, Lib.hid rfl⟩
      obtain ⟨p2, h2⟩ : ∃ x, Hid (L[k].u = x) := ⟨L[k].u, Lib.hid rfl⟩
      rw [h0.out] at c0
      rw [h1.out] at c1
      rw [h2.out] at c2
      have hg : L[k] = ⟨p0, p1, p2⟩ := by rw [← h0.out, ← h1.out, ← h2.out]
      rw [hg] at he
      obtain ⟨v, hv⟩ : ∃ v, Hid (rowE c ⟨p0, p1, p2⟩ = v) := ⟨_, Lib.hid rfl⟩
      rw [hv.out] at he
      have lx : x < wr.heap.size := by omega
      have lb : b < wr.heap.size := by omega
      have nx : x ≠ wr.heap.size := by omega
      have cw := (HB.out.cell (i := 0) hcl hcx).trans HC.out
      have lc : c0' < wr.heap.size := by omega
      have nc : c0' ≠ wr.heap.size := by omega
      rcases ezN v with ⟨hz0, hzb⟩ | ⟨hz0, hzb⟩
      · have hv0 := hz0.out
        rw [if_pos hv0] at he
        have hz2 : Hid (facE p0 (L.drop (k + 1)) = E) := Lib.hid he
        have hzb2 := hzb.out
        clear he hz hg
        go_wp2_with fail
        refine (fac1_is (k : Int) p0 p1 p2 c c0' x _ v (by simp [go_sem, World.cell?_alloc_past, *]) (by simp; omega) (by simp; omega) (by simp [go_sem, World.cell?_alloc_past, *]) (by intro j; simp [go_sem, *]) hv).mono ?_
        rintro e w1 ⟨rfl, d0, d1, hE1⟩
        have hE2 : BelowE x w.heap.size wr w1 := (BelowE.of ((Below.refl wr.heap.size wr).alloc (Nat.le_refl _) _) hsz).trans ⟨hE1.os, hE1.tape, hE1.output, hE1.size, fun i hi hn => hE1.block i (by simp; omega) hn⟩
        have HB2 := Lib.hid (HB.out.trans hE2)
        have zz := hE1.size
        try simp at zz
        clear hE1 hE2 hb hf cw
        go_wp2
        go_roundw
        case rel => exact ⟨k + 1, p0, by omega, by go_num, hz2, d0, d1, HB2⟩
        case measure => simp [intOf]; omega
      · have hv0 := hz0.out
        rw [if_neg hv0] at he
        have hr : Hid (E = v) := Lib.hid he.symm
        have hzb2 := hzb.out
        clear hz hg he
        go_wp2_with fail
        refine (fac1_is (k : Int) p0 p1 p2 c c0' x _ v (by simp [go_sem, World.cell?_alloc_past, *]) (by simp; omega) (by simp; omega) (by simp [go_sem, World.cell?_alloc_past, *]) (by intro j; simp [go_sem, *]) hv).mono ?_
        rintro e w1 ⟨rfl, d0, d1, hE1⟩
        have hE2 : BelowE x w.heap.size wr w1 := (BelowE.of ((Below.refl wr.heap.size wr).alloc (Nat.le_refl _) _) hsz).trans ⟨hE1.os, hE1.tape, hE1.output, hE1.size, fun i hi hn => hE1.block i (by simp; omega) hn⟩
        have HB2 := Lib.hid (HB.out.trans hE2)
        have zz := hE1.size
        try simp at zz
        clear hE1 hE2 hb hf cw
        go_wp2
        go_ret2
        exact ⟨(k : Int), by rw [hr.out]; rfl, HB2.out⟩
    · have hkk : k = L.length := by omega
      have kn : ¬ (k : Int) < (L.length : Int) := by omega
      have hr : Hid (E = 0) := by
        show E = 0
        rw [← hz.out, hkk, List.drop_length]; rfl
      clear hz hkk
      go_wp2
      go_ret2
      exact ⟨0, by rw [hr.out]; rfl, HB.out⟩
set_option maxHeartbeats 2000000 in
theorem eachFac_any (L : List Fc) (b off cap x : Nat) (E : Int) (w : World) (hl : L.length ≤ 1000000) (hlt : b < w.heap.size) (hL : RowsAt fcV 3 w b off L) (hx : x < w.heap.size) (hbx : b ≠ x) (hb : w.cell? ⟨x, 0, none⟩ = some (.int .i64 (-1))) (hf : ∀ j, w.frozen? ⟨x, j, none⟩ = false) (hE : Hid (facE (-1) L = E)) :
    Calls Try.prog 86 #[.slice (some ⟨b, off, none⟩) L.length cap, .func (.func 87) #[] #[.pointer (some ⟨x, 0, none⟩)]] w fun e w' => e = .returned (.int .i64 E) ∧ BelowE x w.heap.size w w' := by
  have HP := Lib.hid hL
  clear hL
  have nx : x ≠ w.heap.size := by omega
  have nx2 : w.heap.size ≠ x := by omega
  go_enter Try.func86, Try.ntmps86
  go_wp2_with fail
  refine (numFac_any L b off cap w.heap.size x E _ hl (by simp; omega) (Lib.hid (HP.out.below (show Below w.heap.size w _ from (Below.refl _ _).alloc (Nat.le_refl _) _) hlt)) (by simp [go_sem]) (by simp) nx2 (by simp; omega) hbx (by simp [go_sem, World.cell?_alloc_past, *]) (by intro j; simp [go_sem, *]) hE).mono ?_
  rintro e x1 ⟨i, rfl, hb1⟩
  have hB1 : BelowE x w.heap.size w x1 := (BelowE.of (N := w.heap.size) (show Below w.heap.size w _ from (Below.refl _ _).alloc (Nat.le_refl _) _) (Nat.le_refl _)).trans (hb1.mono (by simp))
  have HB := Lib.hid hB1
  clear hb1 hB1
  go_wp2
  go_ret
  exact ⟨rfl, HB.out⟩
set_option maxHeartbeats 1000000 in
theorem CheckFactors_any (L : List Fc) (A : Option Addr) (cap : Nat) (E : Int) (w : World) (hl : L.length ≤ 1000000) (hL : SlRows fcV 3 w A L) (hE : Hid (ctE L = E)) :
    Calls Try.prog 48 #[.slice A L.length cap] w fun e w' => e = .returned (.int .i64 E) ∧ Below w.heap.size w w' := by
  have he := hE.out
  unfold ctE at he
  by_cases h0 : L.length = 0
  · rw [if_pos h0] at he
    subst he
    have hi : ((L.length : Nat) : Int) = 0 := by omega
    clear hE hL
    go_enter Try.func48, Try.ntmps48
    go_wp2
    go_ret
    exact ⟨rfl, (by (repeat (first | (with_reducible refine Below.drew ?_) | (with_reducible refine below_drewN ?_ _) | (with_reducible refine Below.alloc ?_ (by first | omega | (simp; done) | (simp; omega) | (simp at *; omega)) _) | (with_reducible refine Below.setCell ?_ (by first | omega | (simp; done) | (simp; omega) | (simp at *; omega)) _) | (with_reducible exact Below.refl _ _) | (with_reducible assumption) | (with_reducible refine Below.trans ?_ (Below.mono (by assumption) (by first | omega | (simp; done) | (simp; omega) | (simp at *; omega)))))))⟩
  · rw [if_neg h0] at he
    have hi : ¬ ((L.length : Nat) : Int) = 0 := by omega
    have hib : (((L.length : Nat) : Int) == 0) = false := by simpa using h0
    by_cases h1 : 20 < L.length
    · rw [if_pos h1] at he
      subst he
      have hi2 : (20 : Int) < ((L.length : Nat) : Int) := by omega
      clear hE hL
      go_enter Try.func48, Try.ntmps48
      go_wp2
      go_ret
      exact ⟨rfl, (by (repeat (first | (with_reducible refine Below.drew ?_) | (with_reducible refine below_drewN ?_ _) | (with_reducible refine Below.alloc ?_ (by first | omega | (simp; done) | (simp; omega) | (simp at *; omega)) _) | (with_reducible refine Below.setCell ?_ (by first | omega | (simp; done) | (simp; omega) | (simp at *; omega)) _) | (with_reducible exact Below.refl _ _) | (with_reducible assumption) | (with_reducible refine Below.trans ?_ (Below.mono (by assumption) (by first | omega | (simp; done) | (simp; omega) | (simp at *; omega)))))))⟩
    · rw [if_neg h1] at he
      have hi2 : ¬ (20 : Int) < ((L.length : Nat) : Int) := by omega
      rcases hL with rfl | ⟨b, off, rfl, hlt, hL⟩
      · simp at h0
      have HP := Lib.hid hL
      have HE := Lib.hid he
      clear hE hL he
      have nb : b ≠ w.heap.size := by omega
      go_enter Try.func48, Try.ntmps48
      go_wp2_with fail
      have hb1 : Below w.heap.size w (w.alloc (.cells #[.int .i64 (-1)] 3)) := (Below.refl _ _).alloc (Nat.le_refl _) _
      refine (eachFac_any L b off cap w.heap.size E _ hl (by simp; omega) (HP.out.below hb1 hlt) (by simp) nb (by simp [go_sem]) (by intro j; simp [go_sem]) HE).mono ?_
      rintro e w1 ⟨rfl, hE1⟩
      have HB := Lib.hid (hb1.trans ((⟨hE1.os, hE1.tape, hE1.output, hE1.size, fun i hi hn => hE1.block i (by simp; omega) hn⟩ : BelowE w.heap.size w.heap.size _ _).below (Nat.le_refl _)))
      clear hE1 hb1
      go_wp2
      go_ret
      exact ⟨rfl, HB.out⟩
end Go.Proofs.Ytjkhjjmmkdfjmaa
