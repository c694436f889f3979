/- What lies while a course yields its states: all but the map of decays and the cell that the loop's body writes is as it was. -/
import Derived.Test.YtfaodlcfjhnhbaaTKnown
import Derived.Test.YtfaodlcfjhnhbaaTClone
import Derived.Test.YtfaodlcfjhnhbaaMMarks
import Derived.Outline
namespace Go.Proofs.Ytfaodlcfjhnhbaa
open Go.ChangeShapes Go.WideShapes Go.ChangeAt Go.RowKit
open Go.ChangeMaps (setBlock)
set_option linter.unusedVariables false
set_option linter.unusedSimpArgs false

/-- Whatever lay below N lies as it lay, but for two blocks. -/
structure BelowX (x y N : Nat) (w w' : World) : Prop where
  os : w'.os = w.os
  tape : w'.tape = w.tape
  output : w'.output = w.output
  size : w.heap.size ≤ w'.heap.size
  block : ∀ k, k < N → k ≠ x → k ≠ y → w'.heap[k]? = w.heap[k]?
theorem BelowX.refl (x y N : Nat) (w : World) : BelowX x y N w w := ⟨rfl, rfl, rfl, Nat.le_refl _, fun _ _ _ _ => rfl⟩
theorem BelowX.trans {x y N : Nat} {a b c : World} (h : BelowX x y N a b) (k : BelowX x y N b c) : BelowX x y N a c :=
  ⟨k.os.trans h.os, k.tape.trans h.tape, k.output.trans h.output, Nat.le_trans h.size k.size, fun i hi h1 h2 => (k.block i hi h1 h2).trans (h.block i hi h1 h2)⟩
theorem BelowX.of {x y N n : Nat} {a b : World} (h : Below n a b) (hn : N ≤ n) : BelowX x y N a b :=
  ⟨h.os, h.tape, h.output, h.size, fun i hi _ _ => h.block i (Nat.lt_of_lt_of_le hi hn)⟩
theorem BelowX.setBlock (x y N : Nat) (w : World) (o : Obj) : BelowX x y N w (setBlock w x o) :=
  ⟨rfl, rfl, rfl, by rw [setBlock_size]; exact Nat.le_refl _, fun k _ h _ => setBlock_ne w x k o h⟩
theorem BelowX.cell {x y N : Nat} {w w' : World} (h : BelowX x y N w w') {b i : Nat} (hb : b < N) (h1 : b ≠ x) (h2 : b ≠ y) : w'.cell? ⟨b, i, none⟩ = w.cell? ⟨b, i, none⟩ :=
  World.cell?_of_block (a := ⟨b, i, none⟩) (h.block b hb h1 h2)
theorem BelowX.frozen {x y N : Nat} {w w' : World} (h : BelowX x y N w w') {b i : Nat} (hb : b < N) (h1 : b ≠ x) (h2 : b ≠ y) : w'.frozen? ⟨b, i, none⟩ = w.frozen? ⟨b, i, none⟩ :=
  World.frozen?_of_block (a := ⟨b, i, none⟩) (h.block b hb h1 h2)
/-- The blocks of a course that is followed: the leg of the examples, a table of one compartment. -/
structure Env (cb lx fb b4 b1 b3 bm bB tb to tcap rb rcap q0 qo qcap : Nat) (n h c d a0 a1 a2 a3 : Int) (ol od : Obj) (l D N : Nat) (w : World) : Prop where
  le : N ≤ w.heap.size
  lt : cb < N ∧ lx < N ∧ fb < N ∧ b4 < N ∧ b1 < N ∧ b3 < N ∧ bm < N ∧ bB < N ∧ tb < N ∧ rb < N ∧ q0 < N ∧ l < N ∧ D < N
  ne : cb ≠ bB ∧ lx ≠ bB ∧ fb ≠ bB ∧ b4 ≠ bB ∧ b1 ≠ bB ∧ b3 ≠ bB ∧ bm ≠ bB ∧ tb ≠ bB ∧ rb ≠ bB ∧ q0 ≠ bB ∧ l ≠ bB ∧ D ≠ bB
  nm : cb ≠ bm ∧ lx ≠ bm ∧ fb ≠ bm ∧ b4 ≠ bm ∧ b1 ≠ bm ∧ b3 ≠ bm ∧ bB ≠ bm ∧ tb ≠ bm ∧ rb ≠ bm ∧ q0 ≠ bm ∧ l ≠ bm ∧ D ≠ bm
  c0 : w.cell? ⟨cb, 0, none⟩ = some (.int .i64 1000)
  c1 : w.cell? ⟨cb, 1, none⟩ = some (.int .i64 4000)
  c2 : w.cell? ⟨cb, 2, none⟩ = some (.int .i64 600)
  c3 : w.cell? ⟨cb, 3, none⟩ = some (.int .i64 210)
  c4 : w.cell? ⟨cb, 4, none⟩ = some (.int .i64 0)
  c5 : w.cell? ⟨cb, 5, none⟩ = some (.slice (some ⟨tb, to, none⟩) 1 tcap)
  c6 : w.cell? ⟨cb, 6, none⟩ = some (.int .i64 1)
  lc : w.cell? ⟨lx, 0, none⟩ = some (.slice (some ⟨q0, qo, none⟩) 1 qcap)
  fc : w.cell? ⟨fb, 0, none⟩ = some (.func (.func 78) #[] #[.pointer (some ⟨b4, 0, none⟩), .pointer (some ⟨b1, 0, none⟩), .pointer (some ⟨b3, 0, none⟩)])
  m4 : w.cell? ⟨b4, 0, none⟩ = some (.map (some bm))
  m1 : w.cell? ⟨b1, 5, none⟩ = some (.slice (some ⟨tb, to, none⟩) 1 tcap)
  m3 : w.cell? ⟨b3, 0, none⟩ = some (.slice (some ⟨rb, 0, none⟩) (10 + 1) rcap)
  g0 : w.cell? ⟨tb, to, none⟩ = some (.int .i64 n)
  g1 : w.cell? ⟨tb, to + 1, none⟩ = some (.int .i64 h)
  g2 : w.cell? ⟨tb, to + 2, none⟩ = some (.int .i64 c)
  g3 : w.cell? ⟨tb, to + 3, none⟩ = some (.int .i64 d)
  p0 : w.cell? ⟨q0, qo, none⟩ = some (.int .i64 a0)
  p1 : w.cell? ⟨q0, qo + 1, none⟩ = some (.int .i64 a1)
  p2 : w.cell? ⟨q0, qo + 2, none⟩ = some (.int .i64 a2)
  p3 : w.cell? ⟨q0, qo + 3, none⟩ = some (.int .i64 a3)
  rt : RtAt w rb 10
  rl : w.heap[l]? = some ol
  rd : w.heap[D]? = some od
theorem Env.keep {cb lx fb b4 b1 b3 bm bB tb to tcap rb rcap q0 qo qcap : Nat} {n h c d a0 a1 a2 a3 : Int} {ol od : Obj} {l D N : Nat} {w w' : World} (e : Env cb lx fb b4 b1 b3 bm bB tb to tcap rb rcap q0 qo qcap n h c d a0 a1 a2 a3 ol od l D N w) (hb : BelowX bm bB N w w') : Env cb lx fb b4 b1 b3 bm bB tb to tcap rb rcap q0 qo qcap n h c d a0 a1 a2 a3 ol od l D N w' := by
  obtain ⟨l1, l2, l3, l4, l5, l6, l7, l8, l9, l10, l11, l12, l13⟩ := e.lt
  obtain ⟨n1, n2, n3, n4, n5, n6, n7, n9, n10, n11, n12, n13⟩ := e.ne
  obtain ⟨k1, k2, k3, k4, k5, k6, k7, k9, k10, k11, k12, k13⟩ := e.nm
  have HC : ∀ {b i : Nat} {v : Value}, b < N → b ≠ bm → b ≠ bB → w.cell? ⟨b, i, none⟩ = some v → w'.cell? ⟨b, i, none⟩ = some v := fun h1 h2 h3 h4 => (hb.cell h1 h2 h3).trans h4
  exact ⟨Nat.le_trans e.le hb.size, e.lt, e.ne, e.nm, HC l1 k1 n1 e.c0, HC l1 k1 n1 e.c1, HC l1 k1 n1 e.c2, HC l1 k1 n1 e.c3, HC l1 k1 n1 e.c4, HC l1 k1 n1 e.c5, HC l1 k1 n1 e.c6, HC l2 k2 n2 e.lc, HC l3 k3 n3 e.fc, HC l4 k4 n4 e.m4, HC l5 k5 n5 e.m1, HC l6 k6 n6 e.m3,
    HC l9 k9 n9 e.g0, HC l9 k9 n9 e.g1, HC l9 k9 n9 e.g2, HC l9 k9 n9 e.g3, HC l11 k11 n11 e.p0, HC l11 k11 n11 e.p1, HC l11 k11 n11 e.p2, HC l11 k11 n11 e.p3, fun k u hk => (hb.cell l10 k10 n10).trans (e.rt k u hk), (hb.block l l12 k12 n12).trans e.rl, (hb.block D l13 k13 n13).trans e.rd⟩
/-- The roots and the decays of the examples. -/
theorem rootP_1 : rootP 1 = (707106781, 707106782) := by
  have h1 : isq (1000000000 * 500000000) = 707106781 := isq_one (by decide) (by decide)
  have h2 : isq (1000000000 * 500000000 - 1) = 707106781 := isq_one (by decide) (by decide)
  show (isq (1000000000 * (rootP 0).1), isq (1000000000 * (rootP 0).2 - 1) + 1) = _
  show (isq (1000000000 * 500000000), isq (1000000000 * 500000000 - 1) + 1) = _
  rw [h1, h2]
theorem dst_300 : ∀ k, dst 300 600 (k + 1) = (0, 707106781, 707106782)
  | 0 => by
    have h0 : dst 300 600 0 = (300, 1000000000, 1000000000) := by rw [dst]; rfl
    have := dst_yes (a := 707106781) (b := 707106782) h0 (by rw [rootP_1]; rfl) (by rw [rootP_1]; rfl) (by decide)
    rw [this]
    decide
  | k + 1 => by
    have := dst_no (dst_300 k) (by decide)
    rw [this]
    rfl
theorem dec_300 : decL 300 600 10 = 707106781 ∧ decH 300 600 10 = 707106782 := by
  have := dst_300 9
  constructor
  · rw [decL, this]; rfl
  · rw [decH, this]
theorem ap_0 (x y : Int) : apL 0 0 x y = 0 ∧ apH 0 0 x y = 0 := by
  constructor
  · unfold apL shLo; simp
  · unfold apH shHi; simp
end Go.Proofs.Ytfaodlcfjhnhbaa
