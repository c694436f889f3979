/- The states of a course, for every table, any leg and fineness: a point of the walk over its states. -/
import Derived.Test.YtfaodlcfjhnhbaaTCk
import Derived.Test.YtfaodlcfjhnhbaaTKnowG
import Derived.Test.YtfaodlcfjhnhbaaTLdR
import Derived.RangeFuncNested
import Derived.RangeFuncBound
import Derived.RangeFuncCalls
import Derived.RangeFuncLeaves
import Derived.Shelf.Abstract
import Derived.Shelf.RegionOpen
import Derived.OwnWalkIn
import Derived.TacticsInMore
import Derived.LoopNIn
import Derived.LoopIn
import Derived.Sort.CutIn
import Derived.Deep.DrawnRows
import Derived.Outline
namespace Go.Proofs.Ytfaodlcfjhnhbaa
open Go.ChangeShapes Go.WideShapes Go.ChangeAt Go.RowKit Go.Shelf
open Go.ChangeMaps (setBlock)
set_option linter.unusedVariables false
set_option linter.unusedSimpArgs false
attribute [local go_sem] Oper.semAt_some
attribute [local go_sem ↓] Go.wp_at_zero Go.wp_at_succ


/-- A state at a mark: its block, with the mark and a slice of loads of its own. -/
def St0G (w : World) (P : List Ld) (n : Nat) (j s p0 p1 : Int) (v : Value) (w' : World) : Prop := ∃ b q qf qc, v = .pointer (some ⟨b, 0, none⟩) ∧ (w.heap.size ≤ b ∧ b < w'.heap.size) ∧ (w.heap.size ≤ q ∧ q < w'.heap.size ∧ q ≠ b) ∧ w'.cell? ⟨b, 0, none⟩ = some (.int .i64 j) ∧ w'.cell? ⟨b, 1, none⟩ = some (.int .i64 s) ∧ w'.cell? ⟨b, 2, none⟩ = some (.int .i64 p0) ∧ w'.cell? ⟨b, 3, none⟩ = some (.int .i64 p1) ∧ w'.cell? ⟨b, 4, none⟩ = some (.slice (some ⟨q, qf, none⟩) n qc) ∧ (∀ j, w'.frozen? ⟨b, j, none⟩ = false) ∧ LdAt w' q qf P ∧ Below w.heap.size w w'
theorem set5_blk {X : World} {b k : Nat} {u0 u1 u2 u3 u4 : Value} (h : ∀ i, i < 5 → ∃ v, X.cell? ⟨b, i, none⟩ = some v) (hf : ∀ j, X.frozen? ⟨b, j, none⟩ = false) (hk : k ≠ b) : (set5 X b u0 u1 u2 u3 u4).heap[k]? = X.heap[k]? := (set5_is u0 u1 u2 u3 u4 h hf).2.2.2.2.2.2.2.1 k hk
theorem St0G.of {w X : World} {P : List Ld} {n : Nat} {j s p0 p1 : Int} {b q qf qc : Nat} (hB : Below w.heap.size w X) (hb : w.heap.size ≤ b) (hbx : b < X.heap.size) (h : (∀ i, i < 5 → ∃ v, X.cell? ⟨b, i, none⟩ = some v) ∧ (∀ j, X.frozen? ⟨b, j, none⟩ = false)) (hq : w.heap.size ≤ q) (hqx : q < X.heap.size) (hn : q ≠ b) (hL : LdAt X q qf P) :
    St0G w P n j s p0 p1 (.pointer (some ⟨b, 0, none⟩)) (set5 X b (.int .i64 j) (.int .i64 s) (.int .i64 p0) (.int .i64 p1) (.slice (some ⟨q, qf, none⟩) n qc)) := by
  obtain ⟨s0, s1, s2, s3, s4, s5, s6, s7, s8⟩ := set5_is (.int .i64 j) (.int .i64 s) (.int .i64 p0) (.int .i64 p1) (.slice (some ⟨q, qf, none⟩) n qc) h.1 h.2
  exact ⟨b, q, qf, qc, rfl, ⟨hb, by rw [s8]; exact hbx⟩, ⟨hq, by rw [s8]; exact hqx, hn⟩, s0, s1, s2, s3, s4, s5, hL.blk (s7 q hn), set5_below hB hb⟩
theorem St0G.new {w X : World} {P : List Ld} {n : Nat} {j s p0 p1 : Int} {q qf qc : Nat} {T : TypeId} (hB : Below w.heap.size w X) (hq : w.heap.size ≤ q) (hqx : q < X.heap.size) (hL : LdAt X q qf P) :
    St0G w P n j s p0 p1 (.pointer (some ⟨X.heap.size, 0, none⟩)) (X.alloc (.cells #[.int .i64 j, .int .i64 s, .int .i64 p0, .int .i64 p1, .slice (some ⟨q, qf, none⟩) n qc] T)) := by
  have hb : Below X.heap.size X (X.alloc (.cells #[.int .i64 j, .int .i64 s, .int .i64 p0, .int .i64 p1, .slice (some ⟨q, qf, none⟩) n qc] T)) := (Below.refl _ _).alloc (Nat.le_refl _) _
  exact ⟨X.heap.size, q, qf, qc, rfl, ⟨hB.size, by simp⟩, ⟨hq, by simp; omega, by omega⟩, by simp [go_sem], by simp [go_sem], by simp [go_sem], by simp [go_sem], by simp [go_sem], by intro j; simp [go_sem], hL.below hb hqx, hB.trans (hb.mono hB.size)⟩
/-- A point of the walk: what the course needs lies, the state lies in block b5, its loads in a block of their own. -/
structure CKG (cb lx fb b4 b1 b3 bm bB tb tq tcap rb rcap q0 qo qcap : Nat) (vf vt vs vo vh : Int) (nf : Nat) (T : List Cm) (P0 : List Ld) (ol od : Obj) (l D N : Nat) (w : World) (P : List Ld) (j s p0 p1 : Int) (es : Array MapEntry) (mc : Nat) (b5 q qf qc : Nat) (V : World) : Prop where
  env : EnvG cb lx fb b4 b1 b3 bm bB tb tq tcap rb rcap q0 qo qcap vf vt vs vo vh nf T P0 ol od l D N V
  bx : BelowX bm bB N w V
  b5n : N ≤ b5
  b5l : b5 < V.heap.size
  qn : N ≤ q
  ql : q < V.heap.size
  qb : q ≠ b5
  s0 : V.cell? ⟨b5, 0, none⟩ = some (.int .i64 j)
  s1 : V.cell? ⟨b5, 1, none⟩ = some (.int .i64 s)
  s2 : V.cell? ⟨b5, 2, none⟩ = some (.int .i64 p0)
  s3 : V.cell? ⟨b5, 3, none⟩ = some (.int .i64 p1)
  s4 : V.cell? ⟨b5, 4, none⟩ = some (.slice (some ⟨q, qf, none⟩) T.length qc)
  sf : ∀ j, V.frozen? ⟨b5, j, none⟩ = false
  r : LdAt V q qf P
  mh : V.heap[bm]? = some (.map es mc)
  bc : ∃ v, V.cell? ⟨bB, 0, none⟩ = some v
  bf : V.frozen? ⟨bB, 0, none⟩ = false
  dk : KnowOk N b5 (8 + 2 * nf) T V es.toList
section
variable {cb lx fb b4 b1 b3 bm bB tb tq tcap rb rcap q0 qo qcap : Nat} {vf vt vs vo vh : Int} {nf : Nat} {T : List Cm} {P0 : List Ld} {ol od : Obj} {l D N : Nat} {w : World} {P : List Ld} {j s p0 p1 : Int} {es : Array MapEntry} {mc : Nat} {b5 q qf qc : Nat} {V V' : World}
theorem CKG.below (e : CKG cb lx fb b4 b1 b3 bm bB tb tq tcap rb rcap q0 qo qcap vf vt vs vo vh nf T P0 ol od l D N w P j s p0 p1 es mc b5 q qf qc V) (hB : Below V.heap.size V V') : CKG cb lx fb b4 b1 b3 bm bB tb tq tcap rb rcap q0 qo qcap vf vt vs vo vh nf T P0 ol od l D N w P j s p0 p1 es mc b5 q qf qc V' := by
  have hx : BelowX bm bB N V V' := BelowX.of hB e.env.le
  have HC : ∀ {b i : Nat}, b < V.heap.size → V'.cell? ⟨b, i, none⟩ = V.cell? ⟨b, i, none⟩ := fun {b i} hb => hB.cell (p := ⟨b, i, none⟩) hb
  obtain ⟨v, hv⟩ := e.bc
  have hbl : bB < V.heap.size := Nat.lt_of_lt_of_le e.env.lt.2.2.2.2.2.2.2.1 e.env.le
  have hml : bm < V.heap.size := Nat.lt_of_lt_of_le e.env.lt.2.2.2.2.2.2.1 e.env.le
  exact ⟨e.env.keep hx, e.bx.trans hx, e.b5n, Nat.lt_of_lt_of_le e.b5l hB.size, e.qn, Nat.lt_of_lt_of_le e.ql hB.size, e.qb, (HC e.b5l).trans e.s0, (HC e.b5l).trans e.s1, (HC e.b5l).trans e.s2, (HC e.b5l).trans e.s3, (HC e.b5l).trans e.s4, fun j => (hB.frozen (p := ⟨b5, j, none⟩) e.b5l).trans (e.sf j),
    e.r.below hB e.ql, (hB.block bm hml).trans e.mh, ⟨v, (HC hbl).trans hv⟩, (hB.frozen (p := ⟨bB, 0, none⟩) hbl).trans e.bf, e.dk.blk hB.size (fun b _ _ hb => hB.block b hb)⟩
theorem CKG.round {v : Value} {en : Ending} (e : CKG cb lx fb b4 b1 b3 bm bB tb tq tcap rb rcap q0 qo qcap vf vt vs vo vh nf T P0 ol od l D N w P j s p0 p1 es mc b5 q qf qc V) (hR : Round1 bB V v en V') : CKG cb lx fb b4 b1 b3 bm bB tb tq tcap rb rcap q0 qo qcap vf vt vs vo vh nf T P0 ol od l D N w P j s p0 p1 es mc b5 q qf qc V' := by
  obtain ⟨_, hc, hf, hs, hb, o1, o2, o3⟩ := hR
  have hN := e.env.le
  have hx : BelowX bm bB N V V' := ⟨o1, o2, o3, hs, fun k hk _ h2 => hb k (by omega) h2⟩
  have k5 : b5 ≠ bB := by have := e.env.lt.2.2.2.2.2.2.2.1; have := e.b5n; omega
  have kq : q ≠ bB := by have := e.env.lt.2.2.2.2.2.2.2.1; have := e.qn; omega
  have hBN : bB < N := e.env.lt.2.2.2.2.2.2.2.1
  have C5 : ∀ {i : Nat}, V'.cell? ⟨b5, i, none⟩ = V.cell? ⟨b5, i, none⟩ := fun {i} => World.cell?_of_block (a := ⟨b5, i, none⟩) (hb b5 e.b5l k5)
  have hml : bm < V.heap.size := Nat.lt_of_lt_of_le e.env.lt.2.2.2.2.2.2.1 e.env.le
  exact ⟨e.env.keep hx, e.bx.trans hx, e.b5n, Nat.lt_of_lt_of_le e.b5l hs, e.qn, Nat.lt_of_lt_of_le e.ql hs, e.qb, C5.trans e.s0, C5.trans e.s1, C5.trans e.s2, C5.trans e.s3, C5.trans e.s4, fun j => (World.frozen?_of_block (a := ⟨b5, j, none⟩) (hb b5 e.b5l k5)).trans (e.sf j),
    e.r.blk (hb q e.ql kq), (hb bm hml e.env.ne.2.2.2.2.2.2.1).trans e.mh, ⟨v, hc⟩, hf, e.dk.blk hs (fun b h1 _ hb' => hb b hb' (by omega))⟩
theorem CKG.of (he : EnvG cb lx fb b4 b1 b3 bm bB tb tq tcap rb rcap q0 qo qcap vf vt vs vo vh nf T P0 ol od l D N w) (hN : w.heap.size = N) (hm : w.heap[bm]? = some (.map #[] mc)) {v0 : Value} (hv : w.cell? ⟨bB, 0, none⟩ = some v0 ∧ w.frozen? ⟨bB, 0, none⟩ = false) {v : Value} (hs : St0G w P T.length j s p0 p1 v V) : ∃ b5 q qf qc, v = .pointer (some ⟨b5, 0, none⟩) ∧ CKG cb lx fb b4 b1 b3 bm bB tb tq tcap rb rcap q0 qo qcap vf vt vs vo vh nf T P0 ol od l D N w P j s p0 p1 #[] mc b5 q qf qc V := by
  obtain ⟨b5, q, qf, qc, rfl, ⟨h1, h2⟩, ⟨h3, h4, h5⟩, c0, c1, c2, c3, c4, cf, r, hB⟩ := hs
  have hx : BelowX bm bB N w V := BelowX.of hB (Nat.le_of_eq hN.symm)
  have hbl : bB < w.heap.size := by rw [hN]; exact he.lt.2.2.2.2.2.2.2.1
  have hml : bm < w.heap.size := by rw [hN]; exact he.lt.2.2.2.2.2.2.1
  exact ⟨b5, q, qf, qc, rfl, he.keep hx, hx, by omega, h2, by omega, h4, h5, c0, c1, c2, c3, c4, cf, r, (hB.block bm hml).trans hm, ⟨v0, (hB.cell (p := ⟨bB, 0, none⟩) hbl).trans hv.1⟩, (hB.frozen (p := ⟨bB, 0, none⟩) hbl).trans hv.2, fun e he => by simp at he⟩
/-- The next state is stored: the loads of a step of its own, the map of decays as V1 has it. -/
theorem CKG.next (e : CKG cb lx fb b4 b1 b3 bm bB tb tq tcap rb rcap q0 qo qcap vf vt vs vo vh nf T P0 ol od l D N w P j s p0 p1 es mc b5 q qf qc V) {V1 V2 : World} {es' : Array MapEntry} {mc' : Nat} {P' : List Ld} {j' s' p0' p1' : Int} {b' qc' : Nat} (h1 : BelowX bm bm V.heap.size V V1) (hm : V1.heap[bm]? = some (.map es' mc')) (h2 : Below V1.heap.size V1 V2) (hq : V1.heap.size ≤ b') (hq2 : b' < V2.heap.size)
    (hL : LdAt V2 b' 0 P') (hd : KnowOk N b5 (8 + 2 * nf) T V1 es'.toList) :
    CKG cb lx fb b4 b1 b3 bm bB tb tq tcap rb rcap q0 qo qcap vf vt vs vo vh nf T P0 ol od l D N w P' j' s' p0' p1' es' mc' b5 b' 0 qc' (set5 V2 b5 (.int .i64 j') (.int .i64 s') (.int .i64 p0') (.int .i64 p1') (.slice (some ⟨b', 0, none⟩) T.length qc')) := by
  have hN := e.env.le
  obtain ⟨v, hv⟩ := e.bc
  have hbl : bB < N := e.env.lt.2.2.2.2.2.2.2.1
  have hml : bm < N := e.env.lt.2.2.2.2.2.2.1
  have n5 := e.b5n
  have l5 := e.b5l
  have z1 := h1.size
  have z2 := h2.size
  have k5 : b5 ≠ bm := by omega
  have kB : bB ≠ bm := e.env.nm.2.2.2.2.2.2.1
  have kb : b' ≠ b5 := by omega
  have F : (∀ i, i < 5 → ∃ v, V2.cell? ⟨b5, i, none⟩ = some v) ∧ (∀ j, V2.frozen? ⟨b5, j, none⟩ = false) := by
    have C : ∀ i, V2.cell? ⟨b5, i, none⟩ = V.cell? ⟨b5, i, none⟩ := fun i => (h2.cell (p := ⟨b5, i, none⟩) (show b5 < _ by omega)).trans (h1.cell l5 k5 k5)
    refine ⟨fun i hi => ?_, fun j => ((h2.frozen (p := ⟨b5, j, none⟩) (show b5 < _ by omega)).trans (h1.frozen l5 k5 k5)).trans (e.sf j)⟩
    obtain rfl | rfl | rfl | rfl | rfl : i = 0 ∨ i = 1 ∨ i = 2 ∨ i = 3 ∨ i = 4 := by omega
    · exact ⟨_, (C _).trans e.s0⟩
    · exact ⟨_, (C _).trans e.s1⟩
    · exact ⟨_, (C _).trans e.s2⟩
    · exact ⟨_, (C _).trans e.s3⟩
    · exact ⟨_, (C _).trans e.s4⟩
  obtain ⟨t0, t1, t2, t3, t4, t5, t6, t7, t8⟩ := set5_is (.int .i64 j') (.int .i64 s') (.int .i64 p0') (.int .i64 p1') (.slice (some ⟨b', 0, none⟩) T.length qc') F.1 F.2
  have hx1 : BelowX bm bB N V V1 := ⟨h1.os, h1.tape, h1.output, h1.size, fun k hk ha _ => h1.block k (by omega) ha ha⟩
  have hx2 : BelowX bm bB N V1 V2 := BelowX.of h2 (by omega)
  generalize hX : set5 V2 b5 (.int .i64 j') (.int .i64 s') (.int .i64 p0') (.int .i64 p1') (.slice (some ⟨b', 0, none⟩) T.length qc') = X at *
  have hx3 : BelowX bm bB N V2 X := by rw [← hX]; exact BelowX.of (set5_below (Below.refl N V2) n5) (Nat.le_refl _)
  have hx := (hx1.trans hx2).trans hx3
  have bc' : X.cell? ⟨bB, 0, none⟩ = some v := by
    rw [t6 _ _ (by omega), h2.cell (p := ⟨bB, 0, none⟩) (show bB < _ by omega), h1.cell (by omega) kB kB]; exact hv
  have bf' : X.frozen? ⟨bB, 0, none⟩ = false := by
    rw [World.frozen?_of_block (w := V2) (a := ⟨bB, 0, none⟩) (t7 bB (by omega)), h2.frozen (p := ⟨bB, 0, none⟩) (show bB < _ by omega), h1.frozen (by omega) kB kB]; exact e.bf
  exact ⟨e.env.keep hx, e.bx.trans hx, n5, by rw [t8]; omega, by omega, by rw [t8]; omega, kb, t0, t1, t2, t3, t4, t5, hL.blk (t7 b' kb),
    by rw [t7 _ (by omega), h2.block bm (by omega)]; exact hm, ⟨v, bc'⟩, bf', hd.blk (by rw [t8]; exact z2) (fun b _ hb hb' => (t7 b hb).trans (h2.block b hb'))⟩
end
/-- All states have been yielded: the loads of the last one lie in the loop's cell. -/
def StatesEndG (n : Nat) (P : List Ld) (bm bB N : Nat) (w : World) (e : Ending) (w' : World) : Prop := (∃ v, e = .returned v) ∧ ∃ q qf qc, w'.cell? ⟨bB, 0, none⟩ = some (.slice (some ⟨q, qf, none⟩) n qc) ∧ w'.frozen? ⟨bB, 0, none⟩ = false ∧ N ≤ q ∧ q < w'.heap.size ∧ LdAt w' q qf P ∧ BelowX bm bB N w w'
/-- A leg within the limits, a fineness, loads within the limits. -/
def LegOk (f t s o h : Int) (n : Nat) : Prop := (400 ≤ f ∧ f ≤ 31100) ∧ (400 ≤ t ∧ t ≤ 31100) ∧ (0 ≤ s ∧ s ≤ 100000) ∧ gasE o h = 0 ∧ n ≤ 6
theorem pres_y (a b c d a' b' c' d' r1 r2 : Int) (w : World) (h1 : Hid (min c c' = r1)) (h2 : Hid (max d d' = r2)) :
    Calls Try.prog 67 #[.agg #[.int .i64 a, .int .i64 b, .int .i64 c, .int .i64 d], .agg #[.int .i64 a', .int .i64 b', .int .i64 c', .int .i64 d']] w fun e w' => e = .returned (.agg #[.int .i64 r1, .int .i64 r2]) ∧ Below w.heap.size w w' :=
  pres_x a b c d a' b' c' d' r1 r2 w h1.out h2.out
theorem breath_y (o h p q y0 y1 y2 y3 : Int) (w : World) (hg : Hid (gasE o h = 0)) (p0 : 400 ≤ p ∧ p ≤ 31100) (q0 : 400 ≤ q ∧ q ≤ 31100) (h0 : Hid ((1000 - o - h) * (p - 63) = y0)) (h1 : Hid ((1000 - o - h) * (q - 63) = y1)) (h2 : Hid (h * (p - 63) = y2)) (h3 : Hid (h * (q - 63) = y3)) :
    Calls Try.prog 36 #[.agg #[.int .i64 o, .int .i64 h], .agg #[.int .i64 p, .int .i64 q]] w fun e w' => e = .returned (.agg #[.int .i64 y0, .int .i64 y1, .int .i64 y2, .int .i64 y3]) ∧ Below w.heap.size w w' := by
  have := breathedOf_any o h p q w hg p0.1 p0.2 q0.1 q0.2
  rw [h0.out, h1.out, h2.out, h3.out] at this
  exact this
theorem mark_y (f t s o h j : Int) (len cap : Nat) (A : Option Addr) (n : Nat) (w : World) (r1 r2 r3 : Int) (hL : Hid (LegOk f t s o h n)) (j0 : 0 ≤ j) (j1 : j ≤ ((2 ^ n : Nat) : Int)) (h1 : Hid (mkS s n j = r1)) (h2 : Hid (mkLo f t s n j = r2)) (h3 : Hid (mkHi f t s n j = r3)) :
    Calls Try.prog 64 #[.agg #[.int .i64 f, .int .i64 t, .int .i64 s, .int .i64 o, .int .i64 h, .slice A len cap, .int .i64 n], .int .i64 j] w fun e w' => e = .returned (.agg #[.int .i64 j, .int .i64 r1, .int .i64 r2, .int .i64 r3]) ∧ Below w.heap.size w w' := by
  obtain ⟨a, b, c, d, e⟩ := hL.out
  have := mark_any f t s o h j A len cap n w a.1 a.2 b.1 b.2 c.1 c.2 e j0 j1
  rw [h1.out, h2.out, h3.out] at this
  exact this
theorem stepCount_y (f t s o h : Int) (len cap : Nat) (A : Option Addr) (n K : Nat) (w : World) (hn : n ≤ 6) (hK : Hid (stN s n = K)) :
    Calls Try.prog 66 #[.agg #[.int .i64 f, .int .i64 t, .int .i64 s, .int .i64 o, .int .i64 h, .slice A len cap, .int .i64 n]] w fun e w' => e = .returned (.int .i64 K) ∧ Below w.heap.size w w' := by
  have := stepCount_any f t s o h (.slice A len cap) n w rfl hn
  rw [hK.out] at this
  exact this
def CloneG (P : List Ld) (n : Nat) (w : World) (e : Ending) (w' : World) : Prop := ∃ q qf qc, e = .returned (.slice (some ⟨q, qf, none⟩) n qc) ∧ (w.heap.size ≤ q ∧ q < w'.heap.size) ∧ LdAt w' q qf P ∧ Below w.heap.size w w'
theorem clone_y (P : List Ld) (n q0 qo qcap : Nat) (w : World) (hn : P.length = n) (h1 : 1 ≤ n) (h2 : n ≤ 16) (hq : q0 < w.heap.size) (hL : LdAt w q0 qo P) :
    Calls Try.prog 65 #[.slice (some ⟨q0, qo, none⟩) n qcap] w (CloneG P n w) := by
  subst hn
  refine (cloneLd_any P (some ⟨q0, qo, none⟩) qcap w (by omega) (by simp) (Or.inr ⟨q0, qo, rfl, hq, hL⟩)).mono ?_
  rintro e w' ⟨A, cap, rfl, hS, hA, hB⟩
  rcases hS with hn | ⟨b, off, rfl, hb, hL'⟩
  · rw [hn] at h1; simp at h1
  · exact ⟨b, off, cap, rfl, ⟨hA _ rfl, hb⟩, hL', hB⟩
end Go.Proofs.Ytfaodlcfjhnhbaa
