import Derived.Test.YtjkhjjmmkdfjmaaGTVBeh
import Derived.Test.YtjkhjjmmkdfjmaaGTFShare2
import Derived.Test.YtjkhjjmmkdfjmaaGTFNamed
import Derived.Test.YtjkhjjmmkdfjmaaGTLastReg
import Derived.Test.YtjkhjjmmkdfjmaaGTFRatio
import Derived.Test.YtjkhjjmmkdfjmaaGTFRefM
import Derived.Test.YtjkhjjmmkdfjmaaGTFLeaf
import Derived.Outline
import Derived.Deep.CutBlock
import Derived.Test.YtjkhjjmmkdfjmaaGTShort
import Derived.Deep.DrawnRows
namespace Go.Proofs.Ytjkhjjmmkdfjmaa
open Go.ChangeShapes Go.WideShapes Go.ChangeAt Go.RowKit
set_option linter.unusedVariables false
set_option linter.unusedSimpArgs false
attribute [local go_sem ↓] Go.wp_at_zero Go.wp_at_succ
/-- The vessel's pressure, or the error. -/
def PrPost (L : List Ve) (X : List Fl) (s : ByteArray) (w : World) (e : Ending) (w' : World) : Prop :=
  ((¬ (behP L X).2 = 0 ∧ e = .returned (.tuple #[.agg #[.int .i64 0, .int .i64 0], .int .i64 (behP L X).2])) ∨
  ((behP L X).2 = 0 ∧ fndV s L = -1 ∧ e = .returned (.tuple #[.agg #[.int .i64 0, .int .i64 0], .int .i64 6])) ∨
  ((behP L X).2 = 0 ∧ ∃ (q : Nat) (hq : q < (runR (rm0 L) X).H.length), fndV s L = q ∧ e = .returned (.tuple #[.agg #[.int .i64 (1000 * ((runR (rm0 L) X).H[q].a + (runR (rm0 L) X).H[q].b + (runR (rm0 L) X).H[q].c) / (runR (rm0 L) X).H[q].v), .int .i64 (upI (1000 * ((runR (rm0 L) X).H[q].a + (runR (rm0 L) X).H[q].b + (runR (rm0 L) X).H[q].c)) (runR (rm0 L) X).H[q].v)], .int .i64 0]))) ∧ Below w.heap.size w w'
set_option maxHeartbeats 4000000 in
set_option maxRecDepth 100000 in
theorem PressureOf_any (L : List Ve) (A : Option Addr) (cap n : Nat) (X : List Fl) (fA : Option Addr) (fcap m : Nat) (s : ByteArray) (w : World) (hlen : Hid (n = L.length)) (hl : n ≤ 1000000) (hsz : Hid (∀ g ∈ L, g.nm.size ≤ 1000000)) (hL : Hid (SlRows veV 3 w A L)) (hm : Hid (m = X.length)) (hX : Hid (SlRows flV 8 w fA X)) : Calls Try.prog 25 #[.slice A n cap, .slice fA m fcap, .string s] w (PrPost L X s w) := by
  obtain ⟨E, hE⟩ : ∃ E, Hid ((behP L X).2 = E) := ⟨_, Lib.hid rfl⟩
  have HL : Hid (∀ x, Below w.heap.size w x → SlRows veV 3 x A L) := Lib.hid fun x hb => hL.out.below hb
  have HX : Hid (∀ x, Below w.heap.size w x → SlRows flV 8 x fA X) := Lib.hid fun x hb => hX.out.below hb
  go_enter Try.func25, Try.ntmps25
  go_wp2_with fail
  refine (vesselBehind_any L A cap n X fA fcap m s _ hlen hl hsz (Lib.hid (HL.out _ ((Below.refl _ _).alloc (Nat.le_refl _) _))) hm (Lib.hid (HX.out _ ((Below.refl _ _).alloc (Nat.le_refl _) _)))).mono ?_
  rintro e x1 ⟨hpost, hb1⟩
  have z1 := hb1.size
  try simp at z1
  obtain ⟨q0, q1⟩ : x1.cell? ⟨w.heap.size, 0, none⟩ = some (.int .i64 0) ∧ x1.cell? ⟨w.heap.size, 1, none⟩ = some (.int .i64 0) := by refine ⟨?_, ?_⟩ <;> (rw [bc1 hb1]; simp [go_sem, cP, *])
  have qf : ∀ j, x1.frozen? ⟨w.heap.size, j, none⟩ = false := fun j => by rw [bc2 hb1]; simp [go_sem, *]
  have l1 : w.heap.size < x1.heap.size := by omega
  have n1 : x1.heap.size ≠ w.heap.size := by omega
  have k1 : w.heap.size < x1.heap.size + 1 := by omega
  have m1 : w.heap.size ≠ x1.heap.size := by omega
  have hB1 : Below w.heap.size w x1 := ((Below.refl _ _).alloc (Nat.le_refl _) _).trans (hb1.mono (by simp))
  clear hb1
  rw [hE.out] at hpost
  rcases hpost with ⟨hz, rfl⟩ | ⟨hz, hf, rfl⟩ | ⟨hz, q, hq, hf, he⟩
  · have hz1 : (E != 0) = true := by simpa using hz
    go_wp2
    refine bodyPost_ret (v := .tuple #[.agg #[.int .i64 0, .int .i64 0], .int .i64 E]) (by simp [results, Try.results25, go_sem, *]) rfl ⟨Or.inl ⟨by rw [hE.out]; exact hz, by rw [hE.out]⟩, ?_⟩
    exact belA
  · subst hz
    have hf := Lib.hid hf
    go_wp2
    refine bodyPost_ret (v := .tuple #[.agg #[.int .i64 0, .int .i64 0], .int .i64 6]) (by simp [results, Try.results25, go_sem, *]) rfl ⟨Or.inr (Or.inl ⟨hE.out, hf.out, rfl⟩), ?_⟩
    exact belA
  subst hz
  obtain ⟨N, hD⟩ : ∃ N, behP L X = (N, 0) := ⟨_, Prod.ext rfl hE.out⟩
  have hok := (beh_all hD).1.hd _ (List.getElem_mem hq)
  clear hD
  obtain ⟨G, hG⟩ : ∃ G, Hid ((runR (rm0 L) X).H[q] = G) := ⟨_, Lib.hid rfl⟩
  rw [hG.out] at he hok
  subst he
  obtain ⟨_, gc, gv1, gv2, _, _⟩ := hok
  have hc := Lib.hid gc
  obtain ⟨ca, cb, cc, cs⟩ := conB_iff.1 gc
  have hf := Lib.hid hf
  clear gc
  obtain ⟨S, hS⟩ : ∃ S, Hid (G.a + G.b + G.c = S) := ⟨_, Lib.hid rfl⟩
  have S0 : 0 ≤ S ∧ S ≤ 1000000000 := by have := hS.out; omega
  go_wp2_with fail
  refine (pressureWith_any G.nm G.v G.m G.a G.b G.c 0 S (1000 * S) _ hc hS S0.1 S0.2 (by omega) (by omega) (Lib.hid (by rw [Int.add_zero]))).mono ?_
  rintro e x2 ⟨rfl, hb2⟩
  have z2 := hb2.size
  try simp at z2
  obtain ⟨r0, r1⟩ : x2.cell? ⟨w.heap.size, 0, none⟩ = some (.int .i64 0) ∧ x2.cell? ⟨w.heap.size, 1, none⟩ = some (.int .i64 0) := by refine ⟨?_, ?_⟩ <;> (rw [bc1 hb2]; simp [go_sem, cP, *])
  have rf : ∀ j, x2.frozen? ⟨w.heap.size, j, none⟩ = false := fun j => by rw [bc2 hb2]; simp [go_sem, *]
  have l2 : w.heap.size < x2.heap.size := by omega
  have n2 : x2.heap.size ≠ w.heap.size := by omega
  have k2 : w.heap.size < x2.heap.size + 1 := by omega
  have m2 : w.heap.size ≠ x2.heap.size := by omega
  have hB2 : Below w.heap.size w x2 := (hB1.alloc (by omega) _).trans (hb2.mono (by simp; omega))
  clear hb2 q0 q1 qf l1 n1 k1 m1
  go_wp2_with fail
  refine (rounded2_any (1000 * S) G.v (1000 * S / G.v) (upI (1000 * S) G.v) _ gv1 (by omega) (by omega) (by omega) (Lib.hid rfl) (Lib.hid rfl)).mono ?_
  rintro e x3 ⟨rfl, hb3⟩
  have z3 := hb3.size
  try simp at z3
  obtain ⟨t0, t1⟩ : x3.cell? ⟨w.heap.size, 0, none⟩ = some (.int .i64 0) ∧ x3.cell? ⟨w.heap.size, 1, none⟩ = some (.int .i64 0) := by refine ⟨?_, ?_⟩ <;> (rw [bc1 hb3]; simp [go_sem, cP, *])
  have tf : ∀ j, x3.frozen? ⟨w.heap.size, j, none⟩ = false := fun j => by rw [bc2 hb3]; simp [go_sem, *]
  have l3 : w.heap.size < x3.heap.size := by omega
  have n3 : x3.heap.size ≠ w.heap.size := by omega
  have k3 : w.heap.size < x3.heap.size + 1 := by omega
  have m3 : w.heap.size ≠ x3.heap.size := by omega
  have hB3 : Below w.heap.size w x3 := hB2.trans (hb3.mono hB2.size)
  clear hb3 r0 r1 rf l2 n2 k2 m2
  go_wp2
  refine bodyPost_ret (v := .tuple #[.agg #[.int .i64 (1000 * S / G.v), .int .i64 (upI (1000 * S) G.v)], .int .i64 0]) (by simp [results, Try.results25, go_sem, *]) rfl ⟨Or.inr (Or.inr ⟨hE.out, q, hq, hf.out, ?_⟩), ?_⟩
  · rw [hG.out, hS.out]
  · exact belA
end Go.Proofs.Ytjkhjjmmkdfjmaa

namespace Go.Proofs.Ytjkhjjmmkdfjmaa
open Go.ChangeShapes Go.WideShapes Go.ChangeAt Go.RowKit
set_option linter.unusedVariables false
set_option linter.unusedSimpArgs false
attribute [local go_sem ↓] Go.wp_at_zero Go.wp_at_succ
/-- The vessel's mixture, or the error. -/
def MxPost (L : List Ve) (X : List Fl) (s : ByteArray) (w : World) (e : Ending) (w' : World) : Prop :=
  ((¬ (behP L X).2 = 0 ∧ e = .returned (.tuple #[.agg #[.int .i64 0, .int .i64 0, .int .i64 0, .int .i64 0], .int .i64 (behP L X).2])) ∨
  ((behP L X).2 = 0 ∧ fndV s L = -1 ∧ e = .returned (.tuple #[.agg #[.int .i64 0, .int .i64 0, .int .i64 0, .int .i64 0], .int .i64 6])) ∨
  ((behP L X).2 = 0 ∧ ∃ (q : Nat) (hq : q < (runR (rm0 L) X).H.length), fndV s L = q ∧ ((((runR (rm0 L) X).H[q].a + (runR (rm0 L) X).H[q].b + (runR (rm0 L) X).H[q].c) = 0 ∧ e = .returned (.tuple #[.agg #[.int .i64 0, .int .i64 0, .int .i64 0, .int .i64 0], .int .i64 11])) ∨ (¬ ((runR (rm0 L) X).H[q].a + (runR (rm0 L) X).H[q].b + (runR (rm0 L) X).H[q].c) = 0 ∧ e = .returned (.tuple #[.agg #[.int .i64 (1000 * (runR (rm0 L) X).H[q].a / ((runR (rm0 L) X).H[q].a + (runR (rm0 L) X).H[q].b + (runR (rm0 L) X).H[q].c)), .int .i64 (upI (1000 * (runR (rm0 L) X).H[q].a) ((runR (rm0 L) X).H[q].a + (runR (rm0 L) X).H[q].b + (runR (rm0 L) X).H[q].c)), .int .i64 (1000 * (runR (rm0 L) X).H[q].b / ((runR (rm0 L) X).H[q].a + (runR (rm0 L) X).H[q].b + (runR (rm0 L) X).H[q].c)), .int .i64 (upI (1000 * (runR (rm0 L) X).H[q].b) ((runR (rm0 L) X).H[q].a + (runR (rm0 L) X).H[q].b + (runR (rm0 L) X).H[q].c))], .int .i64 0]))))) ∧ Below w.heap.size w w'
end Go.Proofs.Ytjkhjjmmkdfjmaa

namespace Go.Proofs.Ytjkhjjmmkdfjmaa
open Go.ChangeShapes Go.WideShapes Go.ChangeAt Go.RowKit
set_option linter.unusedVariables false
set_option linter.unusedSimpArgs false
attribute [local go_sem ↓] Go.wp_at_zero Go.wp_at_succ
/-- A block of cells. -/
def BlkAt (u : World) (b : Nat) (vs : List Value) : Prop := b < u.heap.size ∧ ∀ i v, vs[i]? = some v → u.cell? ⟨b, i, none⟩ = some v
theorem BlkAt.below {u u' : World} {b : Nat} {vs : List Value} (h : BlkAt u b vs) (hb : Below u.heap.size u u') : BlkAt u' b vs := ⟨Nat.lt_of_lt_of_le h.1 hb.size, fun i v hv => (hb.cell (p := ⟨b, i, none⟩) h.1).trans (h.2 i v hv)⟩
theorem blk_new (u : World) (vs : List Value) (t : TypeId) : BlkAt (u.alloc (.cells vs.toArray t)) u.heap.size vs := ⟨by simp, fun i v hv => by simp [go_sem, hv]⟩
theorem blk6 {u : World} {b : Nat} {v0 v1 v2 v3 v4 v5 : Value} (h : BlkAt u b [v0, v1, v2, v3, v4, v5]) : b < u.heap.size ∧ u.cell? ⟨b, 0, none⟩ = some v0 ∧ u.cell? ⟨b, 1, none⟩ = some v1 ∧ u.cell? ⟨b, 2, none⟩ = some v2 ∧ u.cell? ⟨b, 3, none⟩ = some v3 ∧ u.cell? ⟨b, 4, none⟩ = some v4 ∧ u.cell? ⟨b, 5, none⟩ = some v5 := ⟨h.1, h.2 0 _ rfl, h.2 1 _ rfl, h.2 2 _ rfl, h.2 3 _ rfl, h.2 4 _ rfl, h.2 5 _ rfl⟩
theorem PrPost.bad {L : List Ve} {X : List Fl} {s : ByteArray} {w : World} {e : Ending} {w' : World} (h : PrPost L X s w e w') {E : Int} (hE : (behP L X).2 = E) (hz : ¬ E = 0) : e = .returned (.tuple #[.agg #[.int .i64 0, .int .i64 0], .int .i64 E]) := by
  subst hE
  rcases h.1 with ⟨_, h⟩ | ⟨h, _⟩ | ⟨h, _⟩
  · exact h
  · exact absurd h hz
  · exact absurd h hz
theorem PrPost.none {L : List Ve} {X : List Fl} {s : ByteArray} {w : World} {e : Ending} {w' : World} (h : PrPost L X s w e w') (hE : (behP L X).2 = 0) (hf : fndV s L = -1) : e = .returned (.tuple #[.agg #[.int .i64 0, .int .i64 0], .int .i64 6]) := by
  rcases h.1 with ⟨h, _⟩ | ⟨_, _, h⟩ | ⟨_, q, _, h, _⟩
  · exact absurd hE h
  · exact h
  · exact absurd h (by omega)
theorem PrPost.some {L : List Ve} {X : List Fl} {s : ByteArray} {w : World} {e : Ending} {w' : World} (h : PrPost L X s w e w') (hE : (behP L X).2 = 0) {r : Rm} (hr : runR (rm0 L) X = r) {q : Nat} (hf : fndV s L = q) (hq : q < r.H.length) {G : Hd} (hG : r.H[q] = G) {S : Int} (hS : G.a + G.b + G.c = S) : e = .returned (.tuple #[.agg #[.int .i64 (1000 * S / G.v), .int .i64 (upI (1000 * S) G.v)], .int .i64 0]) := by
  subst hr
  rcases h.1 with ⟨h, _⟩ | ⟨_, h, _⟩ | ⟨_, q', hq', h2, h3⟩
  · exact absurd hE h
  · exact absurd h (by omega)
  · obtain rfl : q' = q := by omega
    subst hG
    subst hS
    exact h3
theorem MxPost.bad {L : List Ve} {X : List Fl} {s : ByteArray} {w : World} {e : Ending} {w' : World} (h : MxPost L X s w e w') {E : Int} (hE : (behP L X).2 = E) (hz : ¬ E = 0) : e = .returned (.tuple #[.agg #[.int .i64 0, .int .i64 0, .int .i64 0, .int .i64 0], .int .i64 E]) := by
  subst hE
  rcases h.1 with ⟨_, h⟩ | ⟨h, _⟩ | ⟨h, _⟩
  · exact h
  · exact absurd h hz
  · exact absurd h hz
theorem MxPost.none {L : List Ve} {X : List Fl} {s : ByteArray} {w : World} {e : Ending} {w' : World} (h : MxPost L X s w e w') (hE : (behP L X).2 = 0) (hf : fndV s L = -1) : e = .returned (.tuple #[.agg #[.int .i64 0, .int .i64 0, .int .i64 0, .int .i64 0], .int .i64 6]) := by
  rcases h.1 with ⟨h, _⟩ | ⟨_, _, h⟩ | ⟨_, q, _, h, _⟩
  · exact absurd hE h
  · exact h
  · exact absurd h (by omega)
theorem MxPost.zero {L : List Ve} {X : List Fl} {s : ByteArray} {w : World} {e : Ending} {w' : World} (h : MxPost L X s w e w') (hE : (behP L X).2 = 0) {r : Rm} (hr : runR (rm0 L) X = r) {q : Nat} (hf : fndV s L = q) (hq : q < r.H.length) {G : Hd} (hG : r.H[q] = G) {S : Int} (hS : G.a + G.b + G.c = S) (hz : S = 0) : e = .returned (.tuple #[.agg #[.int .i64 0, .int .i64 0, .int .i64 0, .int .i64 0], .int .i64 11]) := by
  subst hr
  rcases h.1 with ⟨h, _⟩ | ⟨_, h, _⟩ | ⟨_, q', hq', h2, h3⟩
  · exact absurd hE h
  · exact absurd h (by omega)
  · obtain rfl : q' = q := by omega
    subst hG
    subst hS
    exact h3.elim (fun h => h.2) (fun h => absurd hz h.1)
theorem MxPost.some {L : List Ve} {X : List Fl} {s : ByteArray} {w : World} {e : Ending} {w' : World} (h : MxPost L X s w e w') (hE : (behP L X).2 = 0) {r : Rm} (hr : runR (rm0 L) X = r) {q : Nat} (hf : fndV s L = q) (hq : q < r.H.length) {G : Hd} (hG : r.H[q] = G) {S : Int} (hS : G.a + G.b + G.c = S) (hz : ¬ S = 0) : e = .returned (.tuple #[.agg #[.int .i64 (1000 * G.a / S), .int .i64 (upI (1000 * G.a) S), .int .i64 (1000 * G.b / S), .int .i64 (upI (1000 * G.b) S)], .int .i64 0]) := by
  subst hr
  rcases h.1 with ⟨h, _⟩ | ⟨_, h, _⟩ | ⟨_, q', hq', h2, h3⟩
  · exact absurd hE h
  · exact absurd h (by omega)
  · obtain rfl : q' = q := by omega
    subst hG
    subst hS
    exact h3.elim (fun h => absurd h.1 hz) (fun h => h.2)
theorem neC (a b c : Int) (w : World) : (binOp .neq 49 (.agg #[.int .i64 a, .int .i64 b, .int .i64 c]) (.agg #[.int .i64 a, .int .i64 b, .int .i64 c])).run Try.prog w = .ok (.bool false) w := by simp [go_sem]
end Go.Proofs.Ytjkhjjmmkdfjmaa
