/- The states at the marks of the leg of the examples, with the fineness 1: what (course).states and its function do. -/
import Derived.Test.YtfaodlcfjhnhbaaTEnv
import Derived.Test.YtfaodlcfjhnhbaaMSmall
import Derived.RangeFuncNested
import Derived.RangeFuncBound
import Derived.RangeFuncCalls
import Derived.RangeFuncLeaves
import Derived.Shelf.Abstract
import Derived.Shelf.RegionOpen
import Derived.OwnWalkIn
import Derived.TacticsInMore
import Derived.LoopNIn
import Derived.LoopIn
import Derived.Sort.CutIn
import Derived.Deep.DrawnRows
import Derived.Outline
namespace Go.Proofs.Ytfaodlcfjhnhbaa
open Go.ChangeShapes Go.WideShapes Go.ChangeAt Go.RowKit Go.Shelf
open Go.ChangeMaps (setBlock)
set_option linter.unusedVariables false
set_option linter.unusedSimpArgs false
attribute [local go_sem] Oper.semAt_some
attribute [local go_sem ↓] Go.wp_at_zero Go.wp_at_succ

/-- What a round of the loop over states leaves: the loads of the state in the loop's cell, all else as it was. -/
def Round1 (bB : Nat) (w : World) (v : Value) (e : Ending) (w' : World) : Prop := e = .returned (.bool true) ∧ w'.cell? ⟨bB, 0, none⟩ = some v ∧ w'.frozen? ⟨bB, 0, none⟩ = false ∧ w.heap.size ≤ w'.heap.size ∧ (∀ k, k < w.heap.size → k ≠ bB → w'.heap[k]? = w.heap[k]?) ∧ w'.os = w.os ∧ w'.tape = w.tape ∧ w'.output = w.output
/-- What the rounds are asked. -/
def Yields (n l D bB N : Nat) (ol od : Obj) : Prop := ∀ (w : World) (x0 x1 x2 x3 : Int) (q qf c1 c2 : Nat) (v : Value), N ≤ w.heap.size → w.heap[l]? = some ol → w.heap[D]? = some od → w.cell? ⟨bB, 0, none⟩ = some v → w.frozen? ⟨bB, 0, none⟩ = false →
  YieldAt Fence.wide n Try.prog l #[.agg #[.int .i64 x0, .int .i64 x1, .int .i64 x2, .int .i64 x3, .slice (some ⟨q, qf, none⟩) c1 c2]] w (Round1 bB w (.slice (some ⟨q, qf, none⟩) c1 c2))
theorem stepCount_ex (len cap : Nat) (A : Option Addr) (w : World) :
    Calls Try.prog 66 #[.agg #[.int .i64 1000, .int .i64 4000, .int .i64 600, .int .i64 210, .int .i64 0, .slice A len cap, .int .i64 1]] w fun e w' => e = .returned (.int .i64 2) ∧ Below w.heap.size w w' := by
  have := stepCount_any 1000 4000 600 210 0 (.slice A len cap) 1 w rfl (by omega)
  rw [show stN 600 1 = 2 by decide] at this
  exact this
/-- A state at a mark: its block, with the mark and a slice of one load of its own. -/
def St0 (w : World) (x0 x1 x2 x3 : Int) (j s p0 p1 : Int) (v : Value) (w' : World) : Prop := ∃ b q qf qc, v = .pointer (some ⟨b, 0, none⟩) ∧ w.heap.size ≤ b ∧ b < w'.heap.size ∧ w.heap.size ≤ q ∧ q < w'.heap.size ∧ q ≠ b ∧ w'.cell? ⟨b, 0, none⟩ = some (.int .i64 j) ∧ w'.cell? ⟨b, 1, none⟩ = some (.int .i64 s) ∧ w'.cell? ⟨b, 2, none⟩ = some (.int .i64 p0) ∧ w'.cell? ⟨b, 3, none⟩ = some (.int .i64 p1) ∧ w'.cell? ⟨b, 4, none⟩ = some (.slice (some ⟨q, qf, none⟩) 1 qc) ∧ (∀ j, w'.frozen? ⟨b, j, none⟩ = false) ∧
  w'.cell? ⟨q, qf, none⟩ = some (.int .i64 x0) ∧ w'.cell? ⟨q, qf + 1, none⟩ = some (.int .i64 x1) ∧ w'.cell? ⟨q, qf + 2, none⟩ = some (.int .i64 x2) ∧ w'.cell? ⟨q, qf + 3, none⟩ = some (.int .i64 x3) ∧ Below w.heap.size w w'
theorem St0.of {w X : World} {x0 x1 x2 x3 j s p0 p1 : Int} {b q qf qc : Nat} (hB : Below w.heap.size w X) (hb : w.heap.size ≤ b) (hbx : b < X.heap.size) (h : (∀ i, i < 5 → ∃ v, X.cell? ⟨b, i, none⟩ = some v) ∧ (∀ j, X.frozen? ⟨b, j, none⟩ = false)) (hq : w.heap.size ≤ q) (hqx : q < X.heap.size) (hn : q ≠ b)
    (r0 : X.cell? ⟨q, qf, none⟩ = some (.int .i64 x0)) (r1 : X.cell? ⟨q, qf + 1, none⟩ = some (.int .i64 x1)) (r2 : X.cell? ⟨q, qf + 2, none⟩ = some (.int .i64 x2)) (r3 : X.cell? ⟨q, qf + 3, none⟩ = some (.int .i64 x3)) :
    St0 w x0 x1 x2 x3 j s p0 p1 (.pointer (some ⟨b, 0, none⟩)) (set5 X b (.int .i64 j) (.int .i64 s) (.int .i64 p0) (.int .i64 p1) (.slice (some ⟨q, qf, none⟩) 1 qc)) := by
  obtain ⟨s0, s1, s2, s3, s4, s5, s6, s7, s8⟩ := set5_is (.int .i64 j) (.int .i64 s) (.int .i64 p0) (.int .i64 p1) (.slice (some ⟨q, qf, none⟩) 1 qc) h.1 h.2
  exact ⟨b, q, qf, qc, rfl, hb, by rw [s8]; exact hbx, hq, by rw [s8]; exact hqx, hn, s0, s1, s2, s3, s4, s5, by rw [s6 _ _ hn]; exact r0, by rw [s6 _ _ hn]; exact r1, by rw [s6 _ _ hn]; exact r2, by rw [s6 _ _ hn]; exact r3, set5_below hB hb⟩
theorem St0.new {w X : World} {x0 x1 x2 x3 j s p0 p1 : Int} {q qf qc : Nat} {T : TypeId} (hB : Below w.heap.size w X) (hq : w.heap.size ≤ q) (hqx : q < X.heap.size)
    (r0 : X.cell? ⟨q, qf, none⟩ = some (.int .i64 x0)) (r1 : X.cell? ⟨q, qf + 1, none⟩ = some (.int .i64 x1)) (r2 : X.cell? ⟨q, qf + 2, none⟩ = some (.int .i64 x2)) (r3 : X.cell? ⟨q, qf + 3, none⟩ = some (.int .i64 x3)) :
    St0 w x0 x1 x2 x3 j s p0 p1 (.pointer (some ⟨X.heap.size, 0, none⟩)) (X.alloc (.cells #[.int .i64 j, .int .i64 s, .int .i64 p0, .int .i64 p1, .slice (some ⟨q, qf, none⟩) 1 qc] T)) := by
  have hb : Below X.heap.size X (X.alloc (.cells #[.int .i64 j, .int .i64 s, .int .i64 p0, .int .i64 p1, .slice (some ⟨q, qf, none⟩) 1 qc] T)) := (Below.refl _ _).alloc (Nat.le_refl _) _
  have c : ∀ i, (X.alloc (.cells #[.int .i64 j, .int .i64 s, .int .i64 p0, .int .i64 p1, .slice (some ⟨q, qf, none⟩) 1 qc] T)).cell? ⟨q, i, none⟩ = X.cell? ⟨q, i, none⟩ := fun i => hb.cell (p := ⟨q, i, none⟩) hqx
  exact ⟨X.heap.size, q, qf, qc, rfl, hB.size, by simp, hq, by simp; omega, by omega, by simp [go_sem], by simp [go_sem], by simp [go_sem], by simp [go_sem], by simp [go_sem], by intro j; simp [go_sem], by rw [c]; exact r0, by rw [c]; exact r1, by rw [c]; exact r2, by rw [c]; exact r3, hB.trans (hb.mono hB.size)⟩
theorem lift1 {w : World} {o : Obj} {q i : Nat} {v : Value} (h : w.cell? ⟨q, i, none⟩ = some v) (hq : q < w.heap.size) : (w.alloc o).cell? ⟨q, i, none⟩ = some v :=
  (((Below.refl w.heap.size w).alloc (Nat.le_refl _) o).cell (p := ⟨q, i, none⟩) hq).trans h
/-- A point of the walk: what the course needs lies, the state lies in block b5, its load in a block of its own. -/
structure CK (cb lx fb b4 b1 b3 bm bB tb to tcap rb rcap q0 qo qcap : Nat) (n h c d a0 a1 a2 a3 : Int) (ol od : Obj) (l D N : Nat) (w : World) (x0 x1 x2 x3 j s p0 p1 : Int) (mp : Obj) (b5 q qf qc : Nat) (V : World) : Prop where
  env : Env cb lx fb b4 b1 b3 bm bB tb to tcap rb rcap q0 qo qcap n h c d a0 a1 a2 a3 ol od l D N V
  bx : BelowX bm bB N w V
  b5n : N ≤ b5
  b5l : b5 < V.heap.size
  qn : N ≤ q
  ql : q < V.heap.size
  qb : q ≠ b5
  s0 : V.cell? ⟨b5, 0, none⟩ = some (.int .i64 j)
  s1 : V.cell? ⟨b5, 1, none⟩ = some (.int .i64 s)
  s2 : V.cell? ⟨b5, 2, none⟩ = some (.int .i64 p0)
  s3 : V.cell? ⟨b5, 3, none⟩ = some (.int .i64 p1)
  s4 : V.cell? ⟨b5, 4, none⟩ = some (.slice (some ⟨q, qf, none⟩) 1 qc)
  sf : ∀ j, V.frozen? ⟨b5, j, none⟩ = false
  r0 : V.cell? ⟨q, qf, none⟩ = some (.int .i64 x0)
  r1 : V.cell? ⟨q, qf + 1, none⟩ = some (.int .i64 x1)
  r2 : V.cell? ⟨q, qf + 2, none⟩ = some (.int .i64 x2)
  r3 : V.cell? ⟨q, qf + 3, none⟩ = some (.int .i64 x3)
  mh : V.heap[bm]? = some mp
  bc : ∃ v, V.cell? ⟨bB, 0, none⟩ = some v
  bf : V.frozen? ⟨bB, 0, none⟩ = false
  dk : ∀ bb, mp = .map #[e300 (.slice (some ⟨bb, 0, none⟩) 1 1)] 1 → N ≤ bb ∧ bb < V.heap.size ∧ bb ≠ b5 ∧ V.cell? ⟨bb, 0, none⟩ = some (.int .i64 707106781) ∧ V.cell? ⟨bb, 1, none⟩ = some (.int .i64 707106782) ∧ V.cell? ⟨bb, 2, none⟩ = some (.int .i64 (decL 300 240 10)) ∧ V.cell? ⟨bb, 3, none⟩ = some (.int .i64 (decH 300 240 10))
section
variable {cb lx fb b4 b1 b3 bm bB tb to tcap rb rcap q0 qo qcap : Nat} {n h c d a0 a1 a2 a3 : Int} {ol od : Obj} {l D N : Nat} {w : World} {x0 x1 x2 x3 j s p0 p1 : Int} {mp : Obj} {b5 q qf qc : Nat} {V V' : World}
theorem CK.below (e : CK cb lx fb b4 b1 b3 bm bB tb to tcap rb rcap q0 qo qcap n h c d a0 a1 a2 a3 ol od l D N w x0 x1 x2 x3 j s p0 p1 mp b5 q qf qc V) (hB : Below V.heap.size V V') : CK cb lx fb b4 b1 b3 bm bB tb to tcap rb rcap q0 qo qcap n h c d a0 a1 a2 a3 ol od l D N w x0 x1 x2 x3 j s p0 p1 mp b5 q qf qc V' := by
  have hx : BelowX bm bB N V V' := BelowX.of hB e.env.le
  have HC : ∀ {b i : Nat}, b < V.heap.size → V'.cell? ⟨b, i, none⟩ = V.cell? ⟨b, i, none⟩ := fun {b i} hb => hB.cell (p := ⟨b, i, none⟩) hb
  obtain ⟨v, hv⟩ := e.bc
  have hbl : bB < V.heap.size := Nat.lt_of_lt_of_le e.env.lt.2.2.2.2.2.2.2.1 e.env.le
  have hml : bm < V.heap.size := Nat.lt_of_lt_of_le e.env.lt.2.2.2.2.2.2.1 e.env.le
  exact ⟨e.env.keep hx, e.bx.trans hx, e.b5n, Nat.lt_of_lt_of_le e.b5l hB.size, e.qn, Nat.lt_of_lt_of_le e.ql hB.size, e.qb, (HC e.b5l).trans e.s0, (HC e.b5l).trans e.s1, (HC e.b5l).trans e.s2, (HC e.b5l).trans e.s3, (HC e.b5l).trans e.s4, fun j => (hB.frozen (p := ⟨b5, j, none⟩) e.b5l).trans (e.sf j),
    (HC e.ql).trans e.r0, (HC e.ql).trans e.r1, (HC e.ql).trans e.r2, (HC e.ql).trans e.r3, (hB.block bm hml).trans e.mh, ⟨v, (HC hbl).trans hv⟩, (hB.frozen (p := ⟨bB, 0, none⟩) hbl).trans e.bf, fun bb hb => by
      obtain ⟨u1, u2, u3, u4, u5, u6, u7⟩ := e.dk bb hb
      exact ⟨u1, Nat.lt_of_lt_of_le u2 hB.size, u3, (HC u2).trans u4, (HC u2).trans u5, (HC u2).trans u6, (HC u2).trans u7⟩⟩
theorem CK.round {v : Value} {en : Ending} (e : CK cb lx fb b4 b1 b3 bm bB tb to tcap rb rcap q0 qo qcap n h c d a0 a1 a2 a3 ol od l D N w x0 x1 x2 x3 j s p0 p1 mp b5 q qf qc V) (hR : Round1 bB V v en V') : CK cb lx fb b4 b1 b3 bm bB tb to tcap rb rcap q0 qo qcap n h c d a0 a1 a2 a3 ol od l D N w x0 x1 x2 x3 j s p0 p1 mp b5 q qf qc V' := by
  obtain ⟨_, hc, hf, hs, hb, o1, o2, o3⟩ := hR
  have hN := e.env.le
  have hx : BelowX bm bB N V V' := ⟨o1, o2, o3, hs, fun k hk _ h2 => hb k (by omega) h2⟩
  have k5 : b5 ≠ bB := by have := e.env.lt.2.2.2.2.2.2.2.1; have := e.b5n; omega
  have kq : q ≠ bB := by have := e.env.lt.2.2.2.2.2.2.2.1; have := e.qn; omega
  have C5 : ∀ {i : Nat}, V'.cell? ⟨b5, i, none⟩ = V.cell? ⟨b5, i, none⟩ := fun {i} => World.cell?_of_block (a := ⟨b5, i, none⟩) (hb b5 e.b5l k5)
  have CQ : ∀ {i : Nat}, V'.cell? ⟨q, i, none⟩ = V.cell? ⟨q, i, none⟩ := fun {i} => World.cell?_of_block (a := ⟨q, i, none⟩) (hb q e.ql kq)
  have hml : bm < V.heap.size := Nat.lt_of_lt_of_le e.env.lt.2.2.2.2.2.2.1 e.env.le
  exact ⟨e.env.keep hx, e.bx.trans hx, e.b5n, Nat.lt_of_lt_of_le e.b5l hs, e.qn, Nat.lt_of_lt_of_le e.ql hs, e.qb, C5.trans e.s0, C5.trans e.s1, C5.trans e.s2, C5.trans e.s3, C5.trans e.s4, fun j => (World.frozen?_of_block (a := ⟨b5, j, none⟩) (hb b5 e.b5l k5)).trans (e.sf j),
    CQ.trans e.r0, CQ.trans e.r1, CQ.trans e.r2, CQ.trans e.r3, (hb bm hml e.env.ne.2.2.2.2.2.2.1).trans e.mh, ⟨v, hc⟩, hf, fun bb hbb => by
      obtain ⟨u1, u2, u3, u4, u5, u6, u7⟩ := e.dk bb hbb
      have kb : bb ≠ bB := by have := e.env.lt.2.2.2.2.2.2.2.1; omega
      have CB : ∀ {i : Nat}, V'.cell? ⟨bb, i, none⟩ = V.cell? ⟨bb, i, none⟩ := fun {i} => World.cell?_of_block (a := ⟨bb, i, none⟩) (hb bb u2 kb)
      exact ⟨u1, Nat.lt_of_lt_of_le u2 hs, u3, CB.trans u4, CB.trans u5, CB.trans u6, CB.trans u7⟩⟩
theorem CK.of (he : Env cb lx fb b4 b1 b3 bm bB tb to tcap rb rcap q0 qo qcap n h c d a0 a1 a2 a3 ol od l D N w) (hN : w.heap.size = N) (hmp : mp = .map #[] 0) (hm : w.heap[bm]? = some mp) {v0 : Value} (hv : w.cell? ⟨bB, 0, none⟩ = some v0 ∧ w.frozen? ⟨bB, 0, none⟩ = false) {v : Value} (hs : St0 w x0 x1 x2 x3 j s p0 p1 v V) : ∃ b5 q qf qc, v = .pointer (some ⟨b5, 0, none⟩) ∧ CK cb lx fb b4 b1 b3 bm bB tb to tcap rb rcap q0 qo qcap n h c d a0 a1 a2 a3 ol od l D N w x0 x1 x2 x3 j s p0 p1 mp b5 q qf qc V := by
  obtain ⟨b5, q, qf, qc, rfl, h1, h2, h3, h4, h5, c0, c1, c2, c3, c4, cf, r0, r1, r2, r3, hB⟩ := hs
  have hx : BelowX bm bB N w V := BelowX.of hB (Nat.le_of_eq hN.symm)
  have hbl : bB < w.heap.size := by rw [hN]; exact he.lt.2.2.2.2.2.2.2.1
  have hml : bm < w.heap.size := by rw [hN]; exact he.lt.2.2.2.2.2.2.1
  exact ⟨b5, q, qf, qc, rfl, he.keep hx, hx, by omega, h2, by omega, h4, h5, c0, c1, c2, c3, c4, cf, r0, r1, r2, r3, (hB.block bm hml).trans hm, ⟨v0, (hB.cell (p := ⟨bB, 0, none⟩) hbl).trans hv.1⟩, (hB.frozen (p := ⟨bB, 0, none⟩) hbl).trans hv.2, fun bb hb => by rw [hmp] at hb; cases hb⟩
/-- The next state is stored: the load of a step of its own, the map of decays as V1 has it. -/
theorem CK.next (e : CK cb lx fb b4 b1 b3 bm bB tb to tcap rb rcap q0 qo qcap n h c d a0 a1 a2 a3 ol od l D N w x0 x1 x2 x3 j s p0 p1 mp b5 q qf qc V) {V1 V2 : World} {mp' : Obj} {y0 y1 y2 y3 j' s' p0' p1' : Int} {b' : Nat} (h1 : BelowX bm bm V.heap.size V V1) (hm : V1.heap[bm]? = some mp') (h2 : Below V1.heap.size V1 V2) (hq : V1.heap.size ≤ b') (hq2 : b' < V2.heap.size)
    (c0 : V2.cell? ⟨b', 0, none⟩ = some (.int .i64 y0)) (c1 : V2.cell? ⟨b', 1, none⟩ = some (.int .i64 y1)) (c2 : V2.cell? ⟨b', 2, none⟩ = some (.int .i64 y2)) (c3 : V2.cell? ⟨b', 3, none⟩ = some (.int .i64 y3))
    (hd : ∀ bb, mp' = .map #[e300 (.slice (some ⟨bb, 0, none⟩) 1 1)] 1 → N ≤ bb ∧ bb < V1.heap.size ∧ bb ≠ b5 ∧ V1.cell? ⟨bb, 0, none⟩ = some (.int .i64 707106781) ∧ V1.cell? ⟨bb, 1, none⟩ = some (.int .i64 707106782) ∧ V1.cell? ⟨bb, 2, none⟩ = some (.int .i64 (decL 300 240 10)) ∧ V1.cell? ⟨bb, 3, none⟩ = some (.int .i64 (decH 300 240 10))) :
    CK cb lx fb b4 b1 b3 bm bB tb to tcap rb rcap q0 qo qcap n h c d a0 a1 a2 a3 ol od l D N w y0 y1 y2 y3 j' s' p0' p1' mp' b5 b' 0 1 (set5 V2 b5 (.int .i64 j') (.int .i64 s') (.int .i64 p0') (.int .i64 p1') (.slice (some ⟨b', 0, none⟩) 1 1)) := by
  have hN := e.env.le
  obtain ⟨v, hv⟩ := e.bc
  have hbl : bB < N := e.env.lt.2.2.2.2.2.2.2.1
  have hml : bm < N := e.env.lt.2.2.2.2.2.2.1
  have n5 := e.b5n
  have l5 := e.b5l
  have z1 := h1.size
  have z2 := h2.size
  have k5 : b5 ≠ bm := by omega
  have kB : bB ≠ bm := e.env.nm.2.2.2.2.2.2.1
  have kb : b' ≠ b5 := by omega
  have F : (∀ i, i < 5 → ∃ v, V2.cell? ⟨b5, i, none⟩ = some v) ∧ (∀ j, V2.frozen? ⟨b5, j, none⟩ = false) := by
    have C : ∀ i, V2.cell? ⟨b5, i, none⟩ = V.cell? ⟨b5, i, none⟩ := fun i => (h2.cell (p := ⟨b5, i, none⟩) (show b5 < _ by omega)).trans (h1.cell l5 k5 k5)
    refine ⟨fun i hi => ?_, fun j => ((h2.frozen (p := ⟨b5, j, none⟩) (show b5 < _ by omega)).trans (h1.frozen l5 k5 k5)).trans (e.sf j)⟩
    obtain rfl | rfl | rfl | rfl | rfl : i = 0 ∨ i = 1 ∨ i = 2 ∨ i = 3 ∨ i = 4 := by omega
    · exact ⟨_, (C _).trans e.s0⟩
    · exact ⟨_, (C _).trans e.s1⟩
    · exact ⟨_, (C _).trans e.s2⟩
    · exact ⟨_, (C _).trans e.s3⟩
    · exact ⟨_, (C _).trans e.s4⟩
  obtain ⟨t0, t1, t2, t3, t4, t5, t6, t7, t8⟩ := set5_is (.int .i64 j') (.int .i64 s') (.int .i64 p0') (.int .i64 p1') (.slice (some ⟨b', 0, none⟩) 1 1) F.1 F.2
  have hx1 : BelowX bm bB N V V1 := ⟨h1.os, h1.tape, h1.output, h1.size, fun k hk ha _ => h1.block k (by omega) ha ha⟩
  have hx2 : BelowX bm bB N V1 V2 := BelowX.of h2 (by omega)
  have hx3 : BelowX bm bB N V2 (set5 V2 b5 (.int .i64 j') (.int .i64 s') (.int .i64 p0') (.int .i64 p1') (.slice (some ⟨b', 0, none⟩) 1 1)) := BelowX.of (set5_below (Below.refl N V2) n5) (Nat.le_refl _)
  have hx := (hx1.trans hx2).trans hx3
  have bc' : (set5 V2 b5 (.int .i64 j') (.int .i64 s') (.int .i64 p0') (.int .i64 p1') (.slice (some ⟨b', 0, none⟩) 1 1)).cell? ⟨bB, 0, none⟩ = some v := by
    rw [t6 _ _ (by omega), h2.cell (p := ⟨bB, 0, none⟩) (show bB < _ by omega), h1.cell (by omega) kB kB]; exact hv
  have bf' : (set5 V2 b5 (.int .i64 j') (.int .i64 s') (.int .i64 p0') (.int .i64 p1') (.slice (some ⟨b', 0, none⟩) 1 1)).frozen? ⟨bB, 0, none⟩ = false := by
    rw [World.frozen?_of_block (w := V2) (a := ⟨bB, 0, none⟩) (t7 bB (by omega)), h2.frozen (p := ⟨bB, 0, none⟩) (show bB < _ by omega), h1.frozen (by omega) kB kB]; exact e.bf
  exact ⟨e.env.keep hx, e.bx.trans hx, n5, by rw [t8]; omega, by omega, by rw [t8]; omega, kb, t0, t1, t2, t3, t4, t5, by rw [t6 _ _ kb]; exact c0, by rw [t6 _ _ kb]; exact c1, by rw [t6 _ _ kb]; exact c2, by rw [t6 _ _ kb]; exact c3,
    by rw [t7 _ (by omega), h2.block bm (by omega)]; exact hm, ⟨v, bc'⟩, bf', fun bb hbb => by
      obtain ⟨u1, u2, u3, u4, u5, u6, u7⟩ := hd bb hbb
      have C : ∀ i, (set5 V2 b5 (.int .i64 j') (.int .i64 s') (.int .i64 p0') (.int .i64 p1') (.slice (some ⟨b', 0, none⟩) 1 1)).cell? ⟨bb, i, none⟩ = V1.cell? ⟨bb, i, none⟩ := fun i => (t6 _ _ u3).trans (h2.cell (p := ⟨bb, i, none⟩) u2)
      exact ⟨u1, by rw [t8]; omega, u3, (C _).trans u4, (C _).trans u5, (C _).trans u6, (C _).trans u7⟩⟩
end
/-- All states have been yielded: the loads of the last one lie in the loop's cell. -/
def StatesEnd (bm bB N : Nat) (w : World) (e : Ending) (w' : World) : Prop := (∃ v, e = .returned v) ∧ ∃ q, w'.cell? ⟨bB, 0, none⟩ = some (.slice (some ⟨q, 0, none⟩) 1 1) ∧ w'.frozen? ⟨bB, 0, none⟩ = false ∧ N ≤ q ∧ q < w'.heap.size ∧ w'.cell? ⟨q, 0, none⟩ = some (.int .i64 1087308) ∧ w'.cell? ⟨q, 0 + 1, none⟩ = some (.int .i64 1679809) ∧ w'.cell? ⟨q, 0 + 2, none⟩ = some (.int .i64 0) ∧ w'.cell? ⟨q, 0 + 3, none⟩ = some (.int .i64 0) ∧ BelowX bm bB N w w'
/-- A new block with what is breathed. -/
def R6 (w : World) (y0 y1 y2 y3 : Int) (v : Value) (w' : World) : Prop := ∃ b, v = .pointer (some ⟨b, 0, none⟩) ∧ w.heap.size ≤ b ∧ b < w'.heap.size ∧ w'.cell? ⟨b, 0, none⟩ = some (.int .i64 y0) ∧ w'.cell? ⟨b, 1, none⟩ = some (.int .i64 y1) ∧ w'.cell? ⟨b, 2, none⟩ = some (.int .i64 y2) ∧ w'.cell? ⟨b, 3, none⟩ = some (.int .i64 y3) ∧ Below w.heap.size w w'
theorem R6.of {w X : World} {y0 y1 y2 y3 : Int} {b : Nat} (hB : Below w.heap.size w X) (hb : w.heap.size ≤ b) (hbx : b < X.heap.size) (h : (∀ i, i < 4 → ∃ v, X.cell? ⟨b, i, none⟩ = some v) ∧ (∀ j, X.frozen? ⟨b, j, none⟩ = false)) :
    R6 w y0 y1 y2 y3 (.pointer (some ⟨b, 0, none⟩)) (set4 X b (.int .i64 y0) (.int .i64 y1) (.int .i64 y2) (.int .i64 y3)) := by
  obtain ⟨s0, s1, s2, s3, s5, s6, s7, s8⟩ := set4_is (.int .i64 y0) (.int .i64 y1) (.int .i64 y2) (.int .i64 y3) h.1 h.2
  exact ⟨b, rfl, hb, by rw [s8]; exact hbx, s0, s1, s2, s3, set4_below hB hb⟩
theorem R6.new {w X : World} {y0 y1 y2 y3 : Int} {T : TypeId} (hB : Below w.heap.size w X) :
    R6 w y0 y1 y2 y3 (.pointer (some ⟨X.heap.size, 0, none⟩)) (X.alloc (.cells #[.int .i64 y0, .int .i64 y1, .int .i64 y2, .int .i64 y3] T)) :=
  ⟨X.heap.size, rfl, hB.size, by simp, by simp [go_sem], by simp [go_sem], by simp [go_sem], by simp [go_sem], hB.alloc hB.size _⟩
theorem pres_x (a b c d a' b' c' d' r1 r2 : Int) (w : World) (h1 : min c c' = r1) (h2 : max d d' = r2) :
    Calls Try.prog 67 #[.agg #[.int .i64 a, .int .i64 b, .int .i64 c, .int .i64 d], .agg #[.int .i64 a', .int .i64 b', .int .i64 c', .int .i64 d']] w fun e w' => e = .returned (.agg #[.int .i64 r1, .int .i64 r2]) ∧ Below w.heap.size w w' := by
  have := pressuresOf_any a b c d a' b' c' d' w
  rw [h1, h2] at this
  exact this
theorem breath_x (p q y0 y1 : Int) (w : World) (p0 : 400 ≤ p ∧ p ≤ 31100) (q0 : 400 ≤ q ∧ q ≤ 31100) (h0 : (1000 - 210 - 0) * (p - 63) = y0) (h1 : (1000 - 210 - 0) * (q - 63) = y1) :
    Calls Try.prog 36 #[.agg #[.int .i64 210, .int .i64 0], .agg #[.int .i64 p, .int .i64 q]] w fun e w' => e = .returned (.agg #[.int .i64 y0, .int .i64 y1, .int .i64 0, .int .i64 0]) ∧ Below w.heap.size w w' := by
  have := breathedOf_any 210 0 p q w (show gasE 210 0 = 0 by decide) p0.1 p0.2 q0.1 q0.2
  rw [h0, h1, Int.zero_mul, Int.zero_mul] at this
  exact this
theorem mark_0x (len cap : Nat) (A : Option Addr) (w : World) (n : Nat) (j : Int) (r1 r2 r3 : Int) (hn : n = 1) (hj : 0 ≤ j ∧ j ≤ 2) (h1 : mkS 600 1 j = r1) (h2 : mkLo 1000 4000 600 1 j = r2) (h3 : mkHi 1000 4000 600 1 j = r3) :
    Calls Try.prog 64 #[.agg #[.int .i64 1000, .int .i64 4000, .int .i64 600, .int .i64 210, .int .i64 0, .slice A len cap, .int .i64 1], .int .i64 j] w fun e w' => e = .returned (.agg #[.int .i64 j, .int .i64 r1, .int .i64 r2, .int .i64 r3]) ∧ Below w.heap.size w w' := by
  have := mark_any 1000 4000 600 210 0 j A len cap 1 w (by omega) (by omega) (by omega) (by omega) (by omega) (by omega) (by omega) hj.1 hj.2
  rw [h1, h2, h3] at this
  exact this
end Go.Proofs.Ytfaodlcfjhnhbaa
