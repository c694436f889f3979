import Derived.Test.YtjkhjjmmkdfjmaaMCRPr
import Derived.Test.YtjkhjjmmkdfjmaaMCShort
import Derived.Deep.DrawnRows
import Derived.Outline
namespace Go.Proofs.Ytjkhjjmmkdfjmaa
open Go.ChangeShapes Go.WideShapes Go.ChangeAt Go.RowKit
set_option linter.unusedVariables false
set_option linter.unusedSimpArgs false
attribute [local go_sem ↓] Go.wp_at_zero Go.wp_at_succ
/-- A block of cells. -/
def BlkAt (u : World) (b : Nat) (vs : List Value) : Prop := b < u.heap.size ∧ ∀ i v, vs[i]? = some v → u.cell? ⟨b, i, none⟩ = some v
theorem BlkAt.below {u u' : World} {b : Nat} {vs : List Value} (h : BlkAt u b vs) (hb : Below u.heap.size u u') : BlkAt u' b vs := ⟨Nat.lt_of_lt_of_le h.1 hb.size, fun i v hv => (hb.cell (p := ⟨b, i, none⟩) h.1).trans (h.2 i v hv)⟩
theorem blk_new (u : World) (vs : List Value) (t : TypeId) : BlkAt (u.alloc (.cells vs.toArray t)) u.heap.size vs := ⟨by simp, fun i v hv => by simp [go_sem, hv]⟩
theorem beh_ct {L : List Ve} {X : List Fl} (h : (behP L X).2 = 0) : ctV L = 0 := by
  unfold behP at h
  by_cases h1 : ctV L = 0
  · exact h1
  · rw [if_neg h1] at h; exact absurd h h1
theorem blk2 {u : World} {b : Nat} {v0 v1 : Value} (h : BlkAt u b [v0, v1]) : b < u.heap.size ∧ u.cell? ⟨b, 0, none⟩ = some v0 ∧ u.cell? ⟨b, 1, none⟩ = some v1 := ⟨h.1, h.2 0 _ rfl, h.2 1 _ rfl⟩
theorem blk4 {u : World} {b : Nat} {v0 v1 v2 v3 : Value} (h : BlkAt u b [v0, v1, v2, v3]) : b < u.heap.size ∧ u.cell? ⟨b, 0, none⟩ = some v0 ∧ u.cell? ⟨b, 1, none⟩ = some v1 ∧ u.cell? ⟨b, 2, none⟩ = some v2 ∧ u.cell? ⟨b, 3, none⟩ = some v3 := ⟨h.1, h.2 0 _ rfl, h.2 1 _ rfl, h.2 2 _ rfl, h.2 3 _ rfl⟩
theorem blk6 {u : World} {b : Nat} {v0 v1 v2 v3 v4 v5 : Value} (h : BlkAt u b [v0, v1, v2, v3, v4, v5]) : b < u.heap.size ∧ u.cell? ⟨b, 0, none⟩ = some v0 ∧ u.cell? ⟨b, 1, none⟩ = some v1 ∧ u.cell? ⟨b, 2, none⟩ = some v2 ∧ u.cell? ⟨b, 3, none⟩ = some v3 ∧ u.cell? ⟨b, 4, none⟩ = some v4 ∧ u.cell? ⟨b, 5, none⟩ = some v5 := ⟨h.1, h.2 0 _ rfl, h.2 1 _ rfl, h.2 2 _ rfl, h.2 3 _ rfl, h.2 4 _ rfl, h.2 5 _ rfl⟩
theorem blk8 {u : World} {b : Nat} {v0 v1 v2 v3 v4 v5 v6 v7 : Value} (h : BlkAt u b [v0, v1, v2, v3, v4, v5, v6, v7]) : b < u.heap.size ∧ u.cell? ⟨b, 0, none⟩ = some v0 ∧ u.cell? ⟨b, 1, none⟩ = some v1 ∧ u.cell? ⟨b, 2, none⟩ = some v2 ∧ u.cell? ⟨b, 3, none⟩ = some v3 ∧ u.cell? ⟨b, 4, none⟩ = some v4 ∧ u.cell? ⟨b, 5, none⟩ = some v5 ∧ u.cell? ⟨b, 6, none⟩ = some v6 ∧ u.cell? ⟨b, 7, none⟩ = some v7 := ⟨h.1, h.2 0 _ rfl, h.2 1 _ rfl, h.2 2 _ rfl, h.2 3 _ rfl, h.2 4 _ rfl, h.2 5 _ rfl, h.2 6 _ rfl, h.2 7 _ rfl⟩
theorem PrPost.bad {L : List Ve} {X : List Fl} {s : ByteArray} {w : World} {e : Ending} {w' : World} (h : PrPost L X s w e w') {E : Int} (hE : (behP L X).2 = E) (hz : ¬ E = 0) : e = .returned (.tuple #[.agg #[.int .i64 0, .int .i64 0], .int .i64 E]) := by
  subst hE
  rcases h.1 with ⟨_, h⟩ | ⟨h, _⟩ | ⟨h, _⟩
  · exact h
  · exact absurd h hz
  · exact absurd h hz
theorem PrPost.none {L : List Ve} {X : List Fl} {s : ByteArray} {w : World} {e : Ending} {w' : World} (h : PrPost L X s w e w') (hE : (behP L X).2 = 0) (hf : fndV s L = -1) : e = .returned (.tuple #[.agg #[.int .i64 0, .int .i64 0], .int .i64 6]) := by
  rcases h.1 with ⟨h, _⟩ | ⟨_, _, h⟩ | ⟨_, q, _, h, _⟩
  · exact absurd hE h
  · exact h
  · exact absurd h (by omega)
theorem PrPost.some {L : List Ve} {X : List Fl} {s : ByteArray} {w : World} {e : Ending} {w' : World} (h : PrPost L X s w e w') (hE : (behP L X).2 = 0) {r : Rm} (hr : runR (rm0 L) X = r) {q : Nat} (hf : fndV s L = q) (hq : q < r.H.length) {G : Hd} (hG : r.H[q] = G) {S : Int} (hS : G.a + G.b + G.c = S) : e = .returned (.tuple #[.agg #[.int .i64 (1000 * S / G.v), .int .i64 (upI (1000 * S) G.v)], .int .i64 0]) := by
  subst hr
  rcases h.1 with ⟨h, _⟩ | ⟨_, h, _⟩ | ⟨_, q', hq', h2, h3⟩
  · exact absurd hE h
  · exact absurd h (by omega)
  · obtain rfl : q' = q := by omega
    subst hG
    subst hS
    exact h3
theorem MxPost.bad {L : List Ve} {X : List Fl} {s : ByteArray} {w : World} {e : Ending} {w' : World} (h : MxPost L X s w e w') {E : Int} (hE : (behP L X).2 = E) (hz : ¬ E = 0) : e = .returned (.tuple #[.agg #[.int .i64 0, .int .i64 0, .int .i64 0, .int .i64 0], .int .i64 E]) := by
  subst hE
  rcases h.1 with ⟨_, h⟩ | ⟨h, _⟩ | ⟨h, _⟩
  · exact h
  · exact absurd h hz
  · exact absurd h hz
theorem MxPost.none {L : List Ve} {X : List Fl} {s : ByteArray} {w : World} {e : Ending} {w' : World} (h : MxPost L X s w e w') (hE : (behP L X).2 = 0) (hf : fndV s L = -1) : e = .returned (.tuple #[.agg #[.int .i64 0, .int .i64 0, .int .i64 0, .int .i64 0], .int .i64 6]) := by
  rcases h.1 with ⟨h, _⟩ | ⟨_, _, h⟩ | ⟨_, q, _, h, _⟩
  · exact absurd hE h
  · exact h
  · exact absurd h (by omega)
theorem MxPost.zero {L : List Ve} {X : List Fl} {s : ByteArray} {w : World} {e : Ending} {w' : World} (h : MxPost L X s w e w') (hE : (behP L X).2 = 0) {r : Rm} (hr : runR (rm0 L) X = r) {q : Nat} (hf : fndV s L = q) (hq : q < r.H.length) {G : Hd} (hG : r.H[q] = G) {S : Int} (hS : G.a + G.b + G.c = S) (hz : S = 0) : e = .returned (.tuple #[.agg #[.int .i64 0, .int .i64 0, .int .i64 0, .int .i64 0], .int .i64 11]) := by
  subst hr
  rcases h.1 with ⟨h, _⟩ | ⟨_, h, _⟩ | ⟨_, q', hq', h2, h3⟩
  · exact absurd hE h
  · exact absurd h (by omega)
  · obtain rfl : q' = q := by omega
    subst hG
    subst hS
    exact h3.elim (fun h => h.2) (fun h => absurd hz h.1)
theorem MxPost.some {L : List Ve} {X : List Fl} {s : ByteArray} {w : World} {e : Ending} {w' : World} (h : MxPost L X s w e w') (hE : (behP L X).2 = 0) {r : Rm} (hr : runR (rm0 L) X = r) {q : Nat} (hf : fndV s L = q) (hq : q < r.H.length) {G : Hd} (hG : r.H[q] = G) {S : Int} (hS : G.a + G.b + G.c = S) (hz : ¬ S = 0) : e = .returned (.tuple #[.agg #[.int .i64 (1000 * G.a / S), .int .i64 (upI (1000 * G.a) S), .int .i64 (1000 * G.b / S), .int .i64 (upI (1000 * G.b) S)], .int .i64 0]) := by
  subst hr
  rcases h.1 with ⟨h, _⟩ | ⟨_, h, _⟩ | ⟨_, q', hq', h2, h3⟩
  · exact absurd hE h
  · exact absurd h (by omega)
  · obtain rfl : q' = q := by omega
    subst hG
    subst hS
    exact h3.elim (fun h => absurd h.1 hz) (fun h => h.2)
theorem neC (a b c : Int) (w : World) : (binOp .neq 49 (.agg #[.int .i64 a, .int .i64 b, .int .i64 c]) (.agg #[.int .i64 a, .int .i64 b, .int .i64 c])).run Try.prog w = .ok (.bool false) w := by simp [go_sem]
theorem neR (a b : Int) (w : World) : (binOp .neq 55 (.agg #[.int .i64 a, .int .i64 b]) (.agg #[.int .i64 a, .int .i64 b])).run Try.prog w = .ok (.bool false) w := by simp [go_sem]
theorem eqT (a b c d : Int) (w : World) : (binOp .eql 59 (.agg #[.int .i64 a, .int .i64 b, .int .i64 c, .int .i64 d]) (.agg #[.int .i64 a, .int .i64 b, .int .i64 c, .int .i64 d])).run Try.prog w = .ok (.bool true) w := by simp [go_sem]
end Go.Proofs.Ytjkhjjmmkdfjmaa
