import Derived.Test.YtchfhhmmjioajaaTClone
import Derived.Test.YtchfhhmmjioajaaMLimits
import Derived.Maps.AppendAt
import Derived.Laws.AppendOwnNone
import Derived.OwnWalk
import Derived.Outline
import Derived.Test.YtchfhhmmjioajaaMSmall
import Derived.LoopN
import Derived.Test.YtchfhhmmjioajaaMRefRoots
import Derived.Deep.DrawnRows
import Derived.Deep.CutRange
import Derived.Deep.CutBlock
/- Gases, legs of plans and legs as lists in memory; the copies that CopyGases and CopyLegs return. -/
namespace Go.Proofs.Ytchfhhmmjioajaa
open Go.ChangeShapes Go.WideShapes Go.ChangeAt Go.RowKit
set_option linter.unusedVariables false
set_option linter.unusedSimpArgs false

/-- A gas: oxygen, helium. -/
structure Gp where
  o : Int
  h : Int
instance : Inhabited Gp := ⟨⟨0, 0⟩⟩
def GpAt (w : World) (b off : Nat) (L : List Gp) : Prop :=
  ∀ k, (hk : k < L.length) → w.cell? ⟨b, off + k * 2, none⟩ = some (.int .i64 (L[k]).o) ∧ w.cell? ⟨b, off + k * 2 + 1, none⟩ = some (.int .i64 (L[k]).h)
theorem GpAt.below {w w' : World} {b off : Nat} {L : List Gp} (h : GpAt w b off L) {n : Nat} (hb : Below n w w') (hlt : b < n) : GpAt w' b off L := by
  intro k hk
  obtain ⟨h0, h1⟩ := h k hk
  have hc : ∀ o, w'.cell? ⟨b, o, none⟩ = w.cell? ⟨b, o, none⟩ := fun o => hb.cell (p := ⟨b, o, none⟩) hlt
  exact ⟨by rw [hc]; exact h0, by rw [hc]; exact h1⟩
def SlGp (w : World) (A : Option Addr) (L : List Gp) : Prop := L = [] ∨ ∃ b off, A = some ⟨b, off, none⟩ ∧ b < w.heap.size ∧ GpAt w b off L
theorem SlGp.below {w w' : World} {A : Option Addr} {L : List Gp} (h : SlGp w A L) (hb : Below w.heap.size w w') : SlGp w' A L := by
  rcases h with h | ⟨b, off, rfl, hlt, h⟩
  · exact Or.inl h
  · exact Or.inr ⟨b, off, rfl, Nat.lt_of_lt_of_le hlt hb.size, h.below hb hlt⟩
theorem SlGp.any {w w' : World} {A : Option Addr} {L : List Gp} {n : Nat} (h : SlGp w A L) (hb : Below n w w') (hn : w.heap.size ≤ n) : SlGp w' A L := h.below (hb.mono hn)
/-- A leg of a plan: seconds, depth, the number of its gas. -/
structure Dl where
  s : Int
  d : Int
  g : Int
instance : Inhabited Dl := ⟨⟨0, 0, 0⟩⟩
def DlAt (w : World) (b off : Nat) (L : List Dl) : Prop :=
  ∀ k, (hk : k < L.length) → w.cell? ⟨b, off + k * 3, none⟩ = some (.int .i64 (L[k]).s) ∧ w.cell? ⟨b, off + k * 3 + 1, none⟩ = some (.int .i64 (L[k]).d) ∧ w.cell? ⟨b, off + k * 3 + 2, none⟩ = some (.int .i64 (L[k]).g)
theorem DlAt.below {w w' : World} {b off : Nat} {L : List Dl} (h : DlAt w b off L) {n : Nat} (hb : Below n w w') (hlt : b < n) : DlAt w' b off L := by
  intro k hk
  obtain ⟨h0, h1, h2⟩ := h k hk
  have hc : ∀ o, w'.cell? ⟨b, o, none⟩ = w.cell? ⟨b, o, none⟩ := fun o => hb.cell (p := ⟨b, o, none⟩) hlt
  exact ⟨by rw [hc]; exact h0, by rw [hc]; exact h1, by rw [hc]; exact h2⟩
def SlDl (w : World) (A : Option Addr) (L : List Dl) : Prop := L = [] ∨ ∃ b off, A = some ⟨b, off, none⟩ ∧ b < w.heap.size ∧ DlAt w b off L
theorem SlDl.below {w w' : World} {A : Option Addr} {L : List Dl} (h : SlDl w A L) (hb : Below w.heap.size w w') : SlDl w' A L := by
  rcases h with h | ⟨b, off, rfl, hlt, h⟩
  · exact Or.inl h
  · exact Or.inr ⟨b, off, rfl, Nat.lt_of_lt_of_le hlt hb.size, h.below hb hlt⟩
theorem SlDl.any {w w' : World} {A : Option Addr} {L : List Dl} {n : Nat} (h : SlDl w A L) (hb : Below n w w') (hn : w.heap.size ≤ n) : SlDl w' A L := h.below (hb.mono hn)
/-- A leg: from, to, seconds, oxygen, helium. -/
structure Tl where
  f : Int
  t : Int
  s : Int
  o : Int
  h : Int
instance : Inhabited Tl := ⟨⟨0, 0, 0, 0, 0⟩⟩
def TlAt (w : World) (b off : Nat) (L : List Tl) : Prop :=
  ∀ k, (hk : k < L.length) → w.cell? ⟨b, off + k * 5, none⟩ = some (.int .i64 (L[k]).f) ∧ w.cell? ⟨b, off + k * 5 + 1, none⟩ = some (.int .i64 (L[k]).t) ∧ w.cell? ⟨b, off + k * 5 + 2, none⟩ = some (.int .i64 (L[k]).s) ∧ w.cell? ⟨b, off + k * 5 + 3, none⟩ = some (.int .i64 (L[k]).o) ∧ w.cell? ⟨b, off + k * 5 + 4, none⟩ = some (.int .i64 (L[k]).h)
theorem TlAt.below {w w' : World} {b off : Nat} {L : List Tl} (h : TlAt w b off L) {n : Nat} (hb : Below n w w') (hlt : b < n) : TlAt w' b off L := by
  intro k hk
  obtain ⟨h0, h1, h2, h3, h4⟩ := h k hk
  have hc : ∀ o, w'.cell? ⟨b, o, none⟩ = w.cell? ⟨b, o, none⟩ := fun o => hb.cell (p := ⟨b, o, none⟩) hlt
  exact ⟨by rw [hc]; exact h0, by rw [hc]; exact h1, by rw [hc]; exact h2, by rw [hc]; exact h3, by rw [hc]; exact h4⟩
def SlTl (w : World) (A : Option Addr) (L : List Tl) : Prop := L = [] ∨ ∃ b off, A = some ⟨b, off, none⟩ ∧ b < w.heap.size ∧ TlAt w b off L
theorem SlTl.below {w w' : World} {A : Option Addr} {L : List Tl} (h : SlTl w A L) (hb : Below w.heap.size w w') : SlTl w' A L := by
  rcases h with h | ⟨b, off, rfl, hlt, h⟩
  · exact Or.inl h
  · exact Or.inr ⟨b, off, rfl, Nat.lt_of_lt_of_le hlt hb.size, h.below hb hlt⟩
theorem SlTl.any {w w' : World} {A : Option Addr} {L : List Tl} {n : Nat} (h : SlTl w A L) (hb : Below n w w') (hn : w.heap.size ≤ n) : SlTl w' A L := h.below (hb.mono hn)
def gpc (P : List Gp) : List Value := P.flatMap fun g => [.int .i64 g.o, .int .i64 g.h]
theorem gpc_len (P : List Gp) : (gpc P).length = P.length * 2 := by
  induction P with
  | nil => rfl
  | cons g r ih =>
    show ([Value.int .i64 g.o, .int .i64 g.h] ++ gpc r).length = _
    rw [List.length_append, ih]; simp; omega
theorem gpc_at {P : List Gp} {k : Nat} (hk : k < P.length) : (gpc P)[k * 2]? = some (.int .i64 P[k].o) ∧ (gpc P)[k * 2 + 1]? = some (.int .i64 P[k].h) := by
  induction P generalizing k with
  | nil => simp at hk
  | cons g r ih =>
    have e : gpc (g :: r) = [Value.int .i64 g.o, .int .i64 g.h] ++ gpc r := rfl
    rw [e]
    cases k with
    | zero => simp
    | succ k =>
      have := ih (k := k) (by simpa using hk)
      rw [show (k + 1) * 2 = k * 2 + 2 by omega]
      obtain ⟨q0, q1⟩ := this
      refine ⟨?_, ?_⟩
      · simpa using q0
      · rw [show k * 2 + 2 + 1 = (k * 2 + 1) + 2 by omega]; simpa using q1
theorem gpc_get {P : List Gp} : ∀ {j : Nat} {u : Value}, (gpc P)[j]? = some u → ∃ k, ∃ hk : k < P.length, (j = k * 2 ∧ u = .int .i64 P[k].o) ∨ (j = k * 2 + 1 ∧ u = .int .i64 P[k].h) := by
  intro j u h
  have hj : j < (gpc P).length := (List.getElem?_eq_some_iff.1 h).1
  rw [gpc_len] at hj
  have hk : j / 2 < P.length := by omega
  refine ⟨j / 2, hk, ?_⟩
  obtain ⟨q0, q1⟩ := gpc_at hk
  have hr : j % 2 = 0 ∨ j % 2 = 1 := by omega
  rcases hr with hr | hr
  · exact Or.inl ⟨by omega, by rw [show j / 2 * 2 = j by omega, h] at q0; exact Option.some.inj q0⟩
  · exact Or.inr (⟨by omega, by rw [show j / 2 * 2 + 1 = j by omega, h] at q1; exact Option.some.inj q1⟩)
theorem gpc_cells {w : World} {c off : Nat} {P : List Gp} (h : GpAt w c off P) : ∀ j u, (gpc P)[j]? = some u → w.cell? ((⟨c, off, none⟩ : Addr).add j) = some u := by
  intro j u hj
  obtain ⟨k, hk, hh⟩ := gpc_get hj
  obtain ⟨h0, h1⟩ := h k hk
  rw [addN4]
  rcases hh with ⟨rfl, rfl⟩ | ⟨rfl, rfl⟩
  · exact h0
  · exact h1
theorem gpc_one (P : List Gp) : ∀ u ∈ gpc P, u.oneCell' = true := by
  intro u hu
  obtain ⟨g, _, hg⟩ := List.mem_flatMap.1 hu
  simp at hg
  rcases hg with rfl | rfl <;> rfl
theorem SlGp_own {w : World} {base : Nat} {e : TypeId} {v : Value} {P : List Gp} (h : w.ownsRow base e 2 v P.length (gpc P)) : ∃ A cap, v = .slice A P.length cap ∧ SlGp w A P ∧ ∀ ad, A = some ad → base ≤ ad.block := by
  rcases h.2 with ⟨rfl, h0⟩ | ⟨g, cap, cur, rfl, hb, hg, hle, hcap, hs, ht⟩
  · exact ⟨none, 0, by rw [h0], Or.inl (List.eq_nil_of_length_eq_zero h0), fun _ h => by cases h⟩
  · refine ⟨some ⟨g, 0, none⟩, cap, rfl, Or.inr ⟨g, 0, rfl, (Array.getElem?_eq_some_iff.1 hg).1, ?_⟩, fun _ h => by cases h; exact hb⟩
    intro k hk
    obtain ⟨q0, q1⟩ := gpc_at hk
    have c := World.ownsRow.cells h (g := g) rfl
    have r0 := c _ _ q0
    have r1 := c _ _ q1
    rw [addN4] at r0 r1
    exact ⟨r0, r1⟩
def dlc (P : List Dl) : List Value := P.flatMap fun g => [.int .i64 g.s, .int .i64 g.d, .int .i64 g.g]
theorem dlc_len (P : List Dl) : (dlc P).length = P.length * 3 := by
  induction P with
  | nil => rfl
  | cons g r ih =>
    show ([Value.int .i64 g.s, .int .i64 g.d, .int .i64 g.g] ++ dlc r).length = _
    rw [List.length_append, ih]; simp; omega
theorem dlc_at {P : List Dl} {k : Nat} (hk : k < P.length) : (dlc P)[k * 3]? = some (.int .i64 P[k].s) ∧ (dlc P)[k * 3 + 1]? = some (.int .i64 P[k].d) ∧ (dlc P)[k * 3 + 2]? = some (.int .i64 P[k].g) := by
  induction P generalizing k with
  | nil => simp at hk
  | cons g r ih =>
    have e : dlc (g :: r) = [Value.int .i64 g.s, .int .i64 g.d, .int .i64 g.g] ++ dlc r := rfl
    rw [e]
    cases k with
    | zero => simp
    | succ k =>
      have := ih (k := k) (by simpa using hk)
      rw [show (k + 1) * 3 = k * 3 + 3 by omega]
      obtain ⟨q0, q1, q2⟩ := this
      refine ⟨?_, ?_, ?_⟩
      · simpa using q0
      · rw [show k * 3 + 3 + 1 = (k * 3 + 1) + 3 by omega]; simpa using q1
      · rw [show k * 3 + 3 + 2 = (k * 3 + 2) + 3 by omega]; simpa using q2
theorem dlc_get {P : List Dl} : ∀ {j : Nat} {u : Value}, (dlc P)[j]? = some u → ∃ k, ∃ hk : k < P.length, (j = k * 3 ∧ u = .int .i64 P[k].s) ∨ (j = k * 3 + 1 ∧ u = .int .i64 P[k].d) ∨ (j = k * 3 + 2 ∧ u = .int .i64 P[k].g) := by
  intro j u h
  have hj : j < (dlc P).length := (List.getElem?_eq_some_iff.1 h).1
  rw [dlc_len] at hj
  have hk : j / 3 < P.length := by omega
  refine ⟨j / 3, hk, ?_⟩
  obtain ⟨q0, q1, q2⟩ := dlc_at hk
  have hr : j % 3 = 0 ∨ j % 3 = 1 ∨ j % 3 = 2 := by omega
  rcases hr with hr | hr | hr
  · exact Or.inl ⟨by omega, by rw [show j / 3 * 3 = j by omega, h] at q0; exact Option.some.inj q0⟩
  · exact Or.inr (Or.inl ⟨by omega, by rw [show j / 3 * 3 + 1 = j by omega, h] at q1; exact Option.some.inj q1⟩)
  · exact Or.inr (Or.inr (⟨by omega, by rw [show j / 3 * 3 + 2 = j by omega, h] at q2; exact Option.some.inj q2⟩))
theorem dlc_cells {w : World} {c off : Nat} {P : List Dl} (h : DlAt w c off P) : ∀ j u, (dlc P)[j]? = some u → w.cell? ((⟨c, off, none⟩ : Addr).add j) = some u := by
  intro j u hj
  obtain ⟨k, hk, hh⟩ := dlc_get hj
  obtain ⟨h0, h1, h2⟩ := h k hk
  rw [addN4]
  rcases hh with ⟨rfl, rfl⟩ | ⟨rfl, rfl⟩ | ⟨rfl, rfl⟩
  · exact h0
  · exact h1
  · exact h2
theorem dlc_one (P : List Dl) : ∀ u ∈ dlc P, u.oneCell' = true := by
  intro u hu
  obtain ⟨g, _, hg⟩ := List.mem_flatMap.1 hu
  simp at hg
  rcases hg with rfl | rfl | rfl <;> rfl
theorem SlDl_own {w : World} {base : Nat} {e : TypeId} {v : Value} {P : List Dl} (h : w.ownsRow base e 3 v P.length (dlc P)) : ∃ A cap, v = .slice A P.length cap ∧ SlDl w A P ∧ ∀ ad, A = some ad → base ≤ ad.block := by
  rcases h.2 with ⟨rfl, h0⟩ | ⟨g, cap, cur, rfl, hb, hg, hle, hcap, hs, ht⟩
  · exact ⟨none, 0, by rw [h0], Or.inl (List.eq_nil_of_length_eq_zero h0), fun _ h => by cases h⟩
  · refine ⟨some ⟨g, 0, none⟩, cap, rfl, Or.inr ⟨g, 0, rfl, (Array.getElem?_eq_some_iff.1 hg).1, ?_⟩, fun _ h => by cases h; exact hb⟩
    intro k hk
    obtain ⟨q0, q1, q2⟩ := dlc_at hk
    have c := World.ownsRow.cells h (g := g) rfl
    have r0 := c _ _ q0
    have r1 := c _ _ q1
    have r2 := c _ _ q2
    rw [addN4] at r0 r1 r2
    exact ⟨r0, r1, r2⟩
def tlc (P : List Tl) : List Value := P.flatMap fun g => [.int .i64 g.f, .int .i64 g.t, .int .i64 g.s, .int .i64 g.o, .int .i64 g.h]
theorem tlc_len (P : List Tl) : (tlc P).length = P.length * 5 := by
  induction P with
  | nil => rfl
  | cons g r ih =>
    show ([Value.int .i64 g.f, .int .i64 g.t, .int .i64 g.s, .int .i64 g.o, .int .i64 g.h] ++ tlc r).length = _
    rw [List.length_append, ih]; simp; omega
theorem tlc_at {P : List Tl} {k : Nat} (hk : k < P.length) : (tlc P)[k * 5]? = some (.int .i64 P[k].f) ∧ (tlc P)[k * 5 + 1]? = some (.int .i64 P[k].t) ∧ (tlc P)[k * 5 + 2]? = some (.int .i64 P[k].s) ∧ (tlc P)[k * 5 + 3]? = some (.int .i64 P[k].o) ∧ (tlc P)[k * 5 + 4]? = some (.int .i64 P[k].h) := by
  induction P generalizing k with
  | nil => simp at hk
  | cons g r ih =>
    have e : tlc (g :: r) = [Value.int .i64 g.f, .int .i64 g.t, .int .i64 g.s, .int .i64 g.o, .int .i64 g.h] ++ tlc r := rfl
    rw [e]
    cases k with
    | zero => simp
    | succ k =>
      have := ih (k := k) (by simpa using hk)
      rw [show (k + 1) * 5 = k * 5 + 5 by omega]
      obtain ⟨q0, q1, q2, q3, q4⟩ := this
      refine ⟨?_, ?_, ?_, ?_, ?_⟩
      · simpa using q0
      · rw [show k * 5 + 5 + 1 = (k * 5 + 1) + 5 by omega]; simpa using q1
      · rw [show k * 5 + 5 + 2 = (k * 5 + 2) + 5 by omega]; simpa using q2
      · rw [show k * 5 + 5 + 3 = (k * 5 + 3) + 5 by omega]; simpa using q3
      · rw [show k * 5 + 5 + 4 = (k * 5 + 4) + 5 by omega]; simpa using q4
theorem tlc_get {P : List Tl} : ∀ {j : Nat} {u : Value}, (tlc P)[j]? = some u → ∃ k, ∃ hk : k < P.length, (j = k * 5 ∧ u = .int .i64 P[k].f) ∨ (j = k * 5 + 1 ∧ u = .int .i64 P[k].t) ∨ (j = k * 5 + 2 ∧ u = .int .i64 P[k].s) ∨ (j = k * 5 + 3 ∧ u = .int .i64 P[k].o) ∨ (j = k * 5 + 4 ∧ u = .int .i64 P[k].h) := by
  intro j u h
  have hj : j < (tlc P).length := (List.getElem?_eq_some_iff.1 h).1
  rw [tlc_len] at hj
  have hk : j / 5 < P.length := by omega
  refine ⟨j / 5, hk, ?_⟩
  obtain ⟨q0, q1, q2, q3, q4⟩ := tlc_at hk
  have hr : j % 5 = 0 ∨ j % 5 = 1 ∨ j % 5 = 2 ∨ j % 5 = 3 ∨ j % 5 = 4 := by omega
  rcases hr with hr | hr | hr | hr | hr
  · exact Or.inl ⟨by omega, by rw [show j / 5 * 5 = j by omega, h] at q0; exact Option.some.inj q0⟩
  · exact Or.inr (Or.inl ⟨by omega, by rw [show j / 5 * 5 + 1 = j by omega, h] at q1; exact Option.some.inj q1⟩)
  · exact Or.inr (Or.inr (Or.inl ⟨by omega, by rw [show j / 5 * 5 + 2 = j by omega, h] at q2; exact Option.some.inj q2⟩))
  · exact Or.inr (Or.inr (Or.inr (Or.inl ⟨by omega, by rw [show j / 5 * 5 + 3 = j by omega, h] at q3; exact Option.some.inj q3⟩)))
  · exact Or.inr (Or.inr (Or.inr (Or.inr (⟨by omega, by rw [show j / 5 * 5 + 4 = j by omega, h] at q4; exact Option.some.inj q4⟩))))
theorem tlc_cells {w : World} {c off : Nat} {P : List Tl} (h : TlAt w c off P) : ∀ j u, (tlc P)[j]? = some u → w.cell? ((⟨c, off, none⟩ : Addr).add j) = some u := by
  intro j u hj
  obtain ⟨k, hk, hh⟩ := tlc_get hj
  obtain ⟨h0, h1, h2, h3, h4⟩ := h k hk
  rw [addN4]
  rcases hh with ⟨rfl, rfl⟩ | ⟨rfl, rfl⟩ | ⟨rfl, rfl⟩ | ⟨rfl, rfl⟩ | ⟨rfl, rfl⟩
  · exact h0
  · exact h1
  · exact h2
  · exact h3
  · exact h4
theorem tlc_one (P : List Tl) : ∀ u ∈ tlc P, u.oneCell' = true := by
  intro u hu
  obtain ⟨g, _, hg⟩ := List.mem_flatMap.1 hu
  simp at hg
  rcases hg with rfl | rfl | rfl | rfl | rfl <;> rfl
theorem SlTl_own {w : World} {base : Nat} {e : TypeId} {v : Value} {P : List Tl} (h : w.ownsRow base e 5 v P.length (tlc P)) : ∃ A cap, v = .slice A P.length cap ∧ SlTl w A P ∧ ∀ ad, A = some ad → base ≤ ad.block := by
  rcases h.2 with ⟨rfl, h0⟩ | ⟨g, cap, cur, rfl, hb, hg, hle, hcap, hs, ht⟩
  · exact ⟨none, 0, by rw [h0], Or.inl (List.eq_nil_of_length_eq_zero h0), fun _ h => by cases h⟩
  · refine ⟨some ⟨g, 0, none⟩, cap, rfl, Or.inr ⟨g, 0, rfl, (Array.getElem?_eq_some_iff.1 hg).1, ?_⟩, fun _ h => by cases h; exact hb⟩
    intro k hk
    obtain ⟨q0, q1, q2, q3, q4⟩ := tlc_at hk
    have c := World.ownsRow.cells h (g := g) rfl
    have r0 := c _ _ q0
    have r1 := c _ _ q1
    have r2 := c _ _ q2
    have r3 := c _ _ q3
    have r4 := c _ _ q4
    rw [addN4] at r0 r1 r2 r3 r4
    exact ⟨r0, r1, r2, r3, r4⟩
theorem infoGp : (Try.prog.info? 38).map (fun i => (i.zero, i.size, i.bytes)) = some (some (.agg #[.int .i64 0, .int .i64 0]), 2, 16) := by kernel_rfl
theorem infoDl : (Try.prog.info? 163).map (fun i => (i.zero, i.size, i.bytes)) = some (some (.agg #[.int .i64 0, .int .i64 0, .int .i64 0]), 3, 24) := by kernel_rfl
theorem infoTl : (Try.prog.info? 55).map (fun i => (i.zero, i.size, i.bytes)) = some (some (.agg #[.int .i64 0, .int .i64 0, .int .i64 0, .int .i64 0, .int .i64 0]), 5, 40) := by kernel_rfl
def CopiedG (P : List Gp) (w : World) (e : Ending) (w' : World) : Prop := ∃ A cap, e = .returned (.slice A P.length cap) ∧ SlGp w' A P ∧ (∀ ad, A = some ad → w.heap.size ≤ ad.block) ∧ Below w.heap.size w w'
def CopiedD (P : List Dl) (w : World) (e : Ending) (w' : World) : Prop := ∃ A cap, e = .returned (.slice A P.length cap) ∧ SlDl w' A P ∧ (∀ ad, A = some ad → w.heap.size ≤ ad.block) ∧ Below w.heap.size w w'
theorem copyGp_some (P : List Gp) (ad : Addr) (cap : Nat) (w : World) (hl : P.length ≤ 1000000) (hP : ∀ j u, (gpc P)[j]? = some u → (w.alloc (.cells #[] 38)).cell? (ad.add j) = some u) :
    Calls Try.prog 119 #[.slice (some ad) P.length cap] w (CopiedG P w) := by
  have HC := Lib.hid hP
  have HO := Lib.hid (World.ownsRow_made (base := w.heap.size) (e := 38) (size := 2) w #[] 0 (Nat.le_refl _) (by simp) (by simp))
  obtain ⟨i0, hi, hz0, hz1, hz2⟩ := info_parts infoGp
  have HI := Lib.hid hi
  have HZ0 := Lib.hid hz0
  have HZ1 := Lib.hid hz1
  have HZ2 := Lib.hid hz2
  have HL := Lib.hid (gpc_len P)
  have HF := Lib.hid (gpc_one P)
  clear hP hi hz0 hz1 hz2
  skip
  go_enter Try.func119, Try.ntmps119
  go_wp2_with (at_builtin; refine wpList_append_own_at _ rfl _ _ 103 rfl w.heap.size 38 i0 (.agg #[.int .i64 0, .int .i64 0]) 2 16 Try.underlying103 HI.out HZ0.out HZ1.out HZ2.out rfl (by decide) _ 0 [] rfl HO.out ad P.length cap (gpc P) rfl HL.out HC.out HF.out ?c1 ?c2 ?c3 ?_)
  case c1 => unfold maxLen; omega
  case c2 => omega
  case c3 => simp
  intro v' w1 hown hgrow _ hblk
  have hB : Below w.heap.size w w1 := ((Below.refl w.heap.size w).alloc (Nat.le_refl _) _).grown hgrow (by simp) (by intro k hk; simp [Value.ownBlock] at hk; omega)
  (try simp only [Nat.zero_add, List.nil_append] at hown)
  have HK := Lib.hid (own_new hown)
  obtain ⟨A, cp, rfl, hS, hN⟩ := SlGp_own hown
  have HN := Lib.hid hN
  clear hN
  have HS := Lib.hid hS
  clear hown hgrow hblk hS
  go_wp2
  go_ret
  exact ⟨A, cp, rfl, HS.out, HN.out, hB⟩
theorem copyGp_nil (w : World) :
    Calls Try.prog 119 #[.slice none 0 0] w (CopiedG [] w) := by
  have HO := Lib.hid (World.ownsRow_made (base := w.heap.size) (e := 38) (size := 2) w #[] 0 (Nat.le_refl _) (by simp) (by simp))
  obtain ⟨i0, hi, hz0, hz1, hz2⟩ := info_parts infoGp
  have HI := Lib.hid hi
  clear hi hz0 hz1 hz2
  go_enter Try.func119, Try.ntmps119
  go_wp2_with (at_builtin; refine wpList_append_own_none rfl _ _ 103 rfl w.heap.size 38 i0 2 Try.underlying103 HI.out _ 0 [] rfl HO.out rfl ?_)
  go_ret
  exact ⟨some ⟨w.heap.size, 0, none⟩, 0, rfl, Or.inl rfl, (fun _ h => by cases h; exact Nat.le_refl _), (by (repeat (first | (with_reducible refine Below.drew ?_) | (with_reducible refine below_drewN ?_ _) | (with_reducible refine Below.alloc ?_ (by first | omega | (simp; done) | (simp; omega) | (simp at *; omega)) _) | (with_reducible refine Below.setCell ?_ (by first | omega | (simp; done) | (simp; omega) | (simp at *; omega)) _) | (with_reducible exact Below.refl _ _) | (with_reducible assumption) | (with_reducible refine Below.trans ?_ (Below.mono (by assumption) (by first | omega | (simp; done) | (simp; omega) | (simp at *; omega)))))))⟩
theorem copyGp_any (P : List Gp) (A : Option Addr) (cap : Nat) (w : World) (hl : P.length ≤ 1000000) (hc : A = none → cap = 0) (hS : SlGp w A P) :
    Calls Try.prog 119 #[.slice A P.length cap] w (CopiedG P w) := by
  rcases hS with rfl | ⟨c, off, rfl, hlt, hP⟩
  · cases A with
    | none => rw [hc rfl]; exact copyGp_nil w
    | some ad => exact copyGp_some [] ad cap w (by simp) (by intro j u h; simp [gpc] at h)
  · exact copyGp_some P _ cap w hl (gpc_cells (hP.below (Below.alloc (Below.refl _ w) (Nat.le_refl _) (.cells #[] 38)) hlt))
theorem copyDl_some (P : List Dl) (ad : Addr) (cap : Nat) (w : World) (hl : P.length ≤ 1000000) (hP : ∀ j u, (dlc P)[j]? = some u → (w.alloc (.cells #[] 163)).cell? (ad.add j) = some u) :
    Calls Try.prog 120 #[.slice (some ad) P.length cap] w (CopiedD P w) := by
  have HC := Lib.hid hP
  have HO := Lib.hid (World.ownsRow_made (base := w.heap.size) (e := 163) (size := 3) w #[] 0 (Nat.le_refl _) (by simp) (by simp))
  obtain ⟨i0, hi, hz0, hz1, hz2⟩ := info_parts infoDl
  have HI := Lib.hid hi
  have HZ0 := Lib.hid hz0
  have HZ1 := Lib.hid hz1
  have HZ2 := Lib.hid hz2
  have HL := Lib.hid (dlc_len P)
  have HF := Lib.hid (dlc_one P)
  clear hP hi hz0 hz1 hz2
  skip
  go_enter Try.func120, Try.ntmps120
  go_wp2_with (at_builtin; refine wpList_append_own_at _ rfl _ _ 104 rfl w.heap.size 163 i0 (.agg #[.int .i64 0, .int .i64 0, .int .i64 0]) 3 24 Try.underlying104 HI.out HZ0.out HZ1.out HZ2.out rfl (by decide) _ 0 [] rfl HO.out ad P.length cap (dlc P) rfl HL.out HC.out HF.out ?c1 ?c2 ?c3 ?_)
  case c1 => unfold maxLen; omega
  case c2 => omega
  case c3 => simp
  intro v' w1 hown hgrow _ hblk
  have hB : Below w.heap.size w w1 := ((Below.refl w.heap.size w).alloc (Nat.le_refl _) _).grown hgrow (by simp) (by intro k hk; simp [Value.ownBlock] at hk; omega)
  (try simp only [Nat.zero_add, List.nil_append] at hown)
  have HK := Lib.hid (own_new hown)
  obtain ⟨A, cp, rfl, hS, hN⟩ := SlDl_own hown
  have HN := Lib.hid hN
  clear hN
  have HS := Lib.hid hS
  clear hown hgrow hblk hS
  go_wp2
  go_ret
  exact ⟨A, cp, rfl, HS.out, HN.out, hB⟩
theorem copyDl_nil (w : World) :
    Calls Try.prog 120 #[.slice none 0 0] w (CopiedD [] w) := by
  have HO := Lib.hid (World.ownsRow_made (base := w.heap.size) (e := 163) (size := 3) w #[] 0 (Nat.le_refl _) (by simp) (by simp))
  obtain ⟨i0, hi, hz0, hz1, hz2⟩ := info_parts infoDl
  have HI := Lib.hid hi
  clear hi hz0 hz1 hz2
  go_enter Try.func120, Try.ntmps120
  go_wp2_with (at_builtin; refine wpList_append_own_none rfl _ _ 104 rfl w.heap.size 163 i0 3 Try.underlying104 HI.out _ 0 [] rfl HO.out rfl ?_)
  go_ret
  exact ⟨some ⟨w.heap.size, 0, none⟩, 0, rfl, Or.inl rfl, (fun _ h => by cases h; exact Nat.le_refl _), (by (repeat (first | (with_reducible refine Below.drew ?_) | (with_reducible refine below_drewN ?_ _) | (with_reducible refine Below.alloc ?_ (by first | omega | (simp; done) | (simp; omega) | (simp at *; omega)) _) | (with_reducible refine Below.setCell ?_ (by first | omega | (simp; done) | (simp; omega) | (simp at *; omega)) _) | (with_reducible exact Below.refl _ _) | (with_reducible assumption) | (with_reducible refine Below.trans ?_ (Below.mono (by assumption) (by first | omega | (simp; done) | (simp; omega) | (simp at *; omega)))))))⟩
theorem copyDl_any (P : List Dl) (A : Option Addr) (cap : Nat) (w : World) (hl : P.length ≤ 1000000) (hc : A = none → cap = 0) (hS : SlDl w A P) :
    Calls Try.prog 120 #[.slice A P.length cap] w (CopiedD P w) := by
  rcases hS with rfl | ⟨c, off, rfl, hlt, hP⟩
  · cases A with
    | none => rw [hc rfl]; exact copyDl_nil w
    | some ad => exact copyDl_some [] ad cap w (by simp) (by intro j u h; simp [dlc] at h)
  · exact copyDl_some P _ cap w hl (dlc_cells (hP.below (Below.alloc (Below.refl _ w) (Nat.le_refl _) (.cells #[] 163)) hlt))
end Go.Proofs.Ytchfhhmmjioajaa

/- What gas.PressureAt, gas.Partial and their specifications return. -/
namespace Go.Proofs.Ytchfhhmmjioajaa
open Go.ChangeShapes Go.WideShapes Go.ChangeAt Go.RowKit
set_option linter.unusedVariables false

def plE (s d : Int) : Int := firE [rngE s 400 1100, rngE d 0 30000]
def plP (s d : Int) : Int := if plE s d = 0 then s + d else 0
theorem PressureAt_any (s d : Int) (w : World) :
    Calls Try.prog 118 #[.int .i64 s, .int .i64 d] w fun e w' => e = .returned (.tuple #[.int .i64 (plP s d), .int .i64 (plE s d)]) ∧ Below w.heap.size w w' := by
  rcases ez (plE s d) with ⟨h, hb⟩ | ⟨h, hb⟩
  · obtain ⟨h1, h2⟩ := firE2_z (show firE [rngE s 400 1100, rngE d 0 30000] = 0 from h.out)
    obtain ⟨k1, k2⟩ := rngE_z h1
    obtain ⟨k3, k4⟩ := rngE_z h2
    have hp : Hid (plP s d = s + d) := if_pos h.out
    have he : Hid (plE s d = 0) := h.out
    rw [hp.out, he.out]
    unfold plE at hb
    clear h1 h2 h
    go_enter Try.func118, Try.ntmps118
    go_wp2_with (first | (go_at_call 139; ((with_reducible refine (checkSurface_any _ _).mono ?_)); rintro e w' ⟨rfl, rfl⟩) | (go_at_call 140; ((with_reducible refine (checkDepth_any _ _).mono ?_)); rintro e w' ⟨rfl, rfl⟩) | (go_at_call 138; ((with_reducible refine (firstOf2c (rngE s 400 1100) (rngE d 0 30000) _ _ (by simp [go_sem]) (by simp [go_sem])).mono ?_)); rintro e w' ⟨rfl, rfl⟩))
    go_ret2
    exact ⟨rfl, (by (repeat (first | (with_reducible refine Below.drew ?_) | (with_reducible refine below_drewN ?_ _) | (with_reducible refine Below.alloc ?_ (by first | omega | (simp; done) | (simp; omega) | (simp at *; omega)) _) | (with_reducible refine Below.setCell ?_ (by first | omega | (simp; done) | (simp; omega) | (simp at *; omega)) _) | (with_reducible exact Below.refl _ _) | (with_reducible assumption) | (with_reducible refine Below.trans ?_ (Below.mono (by assumption) (by first | omega | (simp; done) | (simp; omega) | (simp at *; omega)))))))⟩
  · have hp : Hid (plP s d = 0) := if_neg h.out
    rw [hp.out]
    unfold plE at hb ⊢
    clear h
    go_enter Try.func118, Try.ntmps118
    go_wp2_with (first | (go_at_call 139; ((with_reducible refine (checkSurface_any _ _).mono ?_)); rintro e w' ⟨rfl, rfl⟩) | (go_at_call 140; ((with_reducible refine (checkDepth_any _ _).mono ?_)); rintro e w' ⟨rfl, rfl⟩) | (go_at_call 138; ((with_reducible refine (firstOf2c (rngE s 400 1100) (rngE d 0 30000) _ _ (by simp [go_sem]) (by simp [go_sem])).mono ?_)); rintro e w' ⟨rfl, rfl⟩))
    go_ret2
    exact ⟨rfl, (by (repeat (first | (with_reducible refine Below.drew ?_) | (with_reducible refine below_drewN ?_ _) | (with_reducible refine Below.alloc ?_ (by first | omega | (simp; done) | (simp; omega) | (simp at *; omega)) _) | (with_reducible refine Below.setCell ?_ (by first | omega | (simp; done) | (simp; omega) | (simp at *; omega)) _) | (with_reducible exact Below.refl _ _) | (with_reducible assumption) | (with_reducible refine Below.trans ?_ (Below.mono (by assumption) (by first | omega | (simp; done) | (simp; omega) | (simp at *; omega)))))))⟩
def paE (o h p : Int) : Int := firE [gasE o h, rngE p 0 100000]
def paV (o h p x : Int) : Int := if paE o h p = 0 then x * p else 0
end Go.Proofs.Ytchfhhmmjioajaa

/- What tissue.checkPlan, tissue.checkDiveLeg and the specification's checks of a plan return. -/
namespace Go.Proofs.Ytchfhhmmjioajaa
open Go.ChangeShapes Go.WideShapes Go.ChangeAt Go.RowKit
set_option linter.unusedVariables false
set_option linter.unusedSimpArgs false
def gpE (x : Gp) : Int := gasE x.o x.h
/-- The error of a plan but for those of its legs. -/
def plnE (s : Int) (G : List Gp) (n : Nat) : Int := if inB s 400 1100 = true then (if 8 < G.length then 8 else if fstE gpE G = 0 then (if 60 < n then 8 else 0) else fstE gpE G) else 2
/-- The error of a leg of a plan. -/
def dlE (s d g dep ng : Int) : Int := if inB s 0 100000 = true ∧ inB d 0 30000 = true then (if inB g 0 (ng - 1) = true then (if s = 0 ∧ d ≠ dep then 11 else 0) else 6) else 2
theorem plnE_s {s : Int} {G : List Gp} {n : Nat} (h : inB s 400 1100 = false) : plnE s G n = 2 := by unfold plnE; rw [if_neg (by rw [h]; exact Bool.false_ne_true)]
theorem plnE_l {s : Int} {G : List Gp} {n : Nat} (h : inB s 400 1100 = true) (h8 : 8 < G.length) : plnE s G n = 8 := by unfold plnE; rw [if_pos h, if_pos h8]
theorem plnE_g {s : Int} {G : List Gp} {n : Nat} (h : inB s 400 1100 = true) (h8 : ¬ 8 < G.length) (hg : fstE gpE G ≠ 0) : plnE s G n = fstE gpE G := by unfold plnE; rw [if_pos h, if_neg h8, if_neg hg]
theorem plnE_m {s : Int} {G : List Gp} {n : Nat} (h : inB s 400 1100 = true) (h8 : ¬ 8 < G.length) (hg : fstE gpE G = 0) (h6 : 60 < n) : plnE s G n = 8 := by unfold plnE; rw [if_pos h, if_neg h8, if_pos hg, if_pos h6]
theorem plnE_0 {s : Int} {G : List Gp} {n : Nat} (h : inB s 400 1100 = true) (h8 : ¬ 8 < G.length) (hg : fstE gpE G = 0) (h6 : ¬ 60 < n) : plnE s G n = 0 := by unfold plnE; rw [if_pos h, if_neg h8, if_pos hg, if_neg h6]
theorem plnE_ok {s : Int} {G : List Gp} {n : Nat} (h : plnE s G n = 0) : inB s 400 1100 = true ∧ G.length ≤ 8 ∧ n ≤ 60 ∧ fstE gpE G = 0 := by
  unfold plnE at h
  split at h
  · rename_i h1
    split at h
    · omega
    · split at h
      · rename_i h3
        split at h
        · omega
        · exact ⟨h1, by omega, by omega, h3⟩
      · rename_i h3; exact absurd h h3
  · omega
theorem dlE_ok {s d g dep ng : Int} (h : dlE s d g dep ng = 0) : (0 ≤ s ∧ s ≤ 100000) ∧ (0 ≤ d ∧ d ≤ 30000) ∧ (0 ≤ g ∧ g ≤ ng - 1) ∧ ¬ (s = 0 ∧ d ≠ dep) := by
  unfold dlE at h
  split at h
  · rename_i h1
    rw [inB_iff, inB_iff] at h1
    split at h
    · rename_i h2
      rw [inB_iff] at h2
      split at h
      · omega
      · rename_i h3; exact ⟨h1.1, h1.2, h2, h3⟩
    · omega
  · omega
theorem eachGp1_is (i p0 p1 : Int) (c : Nat) (w : World) (hc : w.cell? ⟨c, 0, none⟩ = some (.func (.func 82) #[] #[])) (hcl : c < w.heap.size) :
    Calls Try.prog 153 #[.int .i64 i, .agg #[.int .i64 p0, .int .i64 p1], .pointer (some ⟨c, 0, none⟩)] w fun e w' => e = .returned (.int .i64 (gasE p0 p1)) ∧ Below w.heap.size w w' := by
  have o1 : c ≠ w.heap.size := by omega
  have o2 : w.heap.size ≠ c := by omega
  go_enter Try.func153, Try.ntmps153
  go_wp2_with fail
  refine (CheckGas_any p0 p1 _).mono ?_
  rintro e w1 ⟨rfl, rfl⟩
  go_wp2
  go_ret
  exact ⟨rfl, (by (repeat (first | (with_reducible refine Below.drew ?_) | (with_reducible refine below_drewN ?_ _) | (with_reducible refine Below.alloc ?_ (by first | omega | (simp; done) | (simp; omega) | (simp at *; omega)) _) | (with_reducible refine Below.setCell ?_ (by first | omega | (simp; done) | (simp; omega) | (simp at *; omega)) _) | (with_reducible exact Below.refl _ _) | (with_reducible assumption) | (with_reducible refine Below.trans ?_ (Below.mono (by assumption) (by first | omega | (simp; done) | (simp; omega) | (simp at *; omega)))))))⟩
def eachGpP (E : Int) (w : World) (e : Ending) (w' : World) : Prop := ∃ n : Int, e = .returned (.tuple #[.int .i64 n, .int .i64 E]) ∧ Below w.heap.size w w'
set_option maxRecDepth 100000 in
set_option maxHeartbeats 1000000 in
theorem eachGpN_any (L : List Gp) (A : Option Addr) (cap c : Nat) (w : World) (hl : L.length ≤ 1000000) (hL : SlGp w A L) (hc : w.cell? ⟨c, 0, none⟩ = some (.func (.func 82) #[] #[])) (hcl : c < w.heap.size) :
    Calls Try.prog 152 #[.slice A L.length cap, .func (.func 153) #[] #[.pointer (some ⟨c, 0, none⟩)]] w (eachGpP (fstE gpE L) w) := by
  have HC := Lib.hid hc
  clear hc
  obtain ⟨E, hE⟩ : ∃ E, Hid (fstE gpE L = E) := ⟨_, Lib.hid rfl⟩
  rw [hE.out]
  rcases hL with rfl | ⟨b, off, rfl, hlt, hL⟩
  · have hr : Hid (E = 0) := Lib.hid (by rw [← hE.out]; rfl)
    clear hE
    go_enter Try.func152, Try.ntmps152
    go_wp2
    refine wp_loop_rounds 1 ?_
    rw [rounds_succ]
    go_wp2
    go_ret2
    exact ⟨0, by rw [hr.out]; rfl, (by (repeat (first | (with_reducible refine Below.drew ?_) | (with_reducible refine below_drewN ?_ _) | (with_reducible refine Below.alloc ?_ (by first | omega | (simp; done) | (simp; omega) | (simp at *; omega)) _) | (with_reducible refine Below.setCell ?_ (by first | omega | (simp; done) | (simp; omega) | (simp at *; omega)) _) | (with_reducible exact Below.refl _ _) | (with_reducible assumption) | (with_reducible refine Below.trans ?_ (Below.mono (by assumption) (by first | omega | (simp; done) | (simp; omega) | (simp at *; omega)))))))⟩
  have HP : Hid (GpAt w b off L) := hL
  clear hL
  go_enter Try.func152, Try.ntmps152
  go_wp2
  go_loopw [11] (fun i wr => ∃ k : Nat, k ≤ L.length ∧ i = .int .i64 k ∧ Hid (∀ j, (hj : j < k) → (hj' : j < L.length) → gpE L[j] = 0) ∧ Below w.heap.size w wr) (fun i _ => L.length - (intOf i).toNat)
  case atStart => exact ⟨0, by omega, rfl, fun j hj => by omega, (by (repeat (first | (with_reducible refine Below.drew ?_) | (with_reducible refine below_drewN ?_ _) | (with_reducible refine Below.alloc ?_ (by first | omega | (simp; done) | (simp; omega) | (simp at *; omega)) _) | (with_reducible refine Below.setCell ?_ (by first | omega | (simp; done) | (simp; omega) | (simp at *; omega)) _) | (with_reducible exact Below.refl _ _) | (with_reducible assumption) | (with_reducible refine Below.trans ?_ (Below.mono (by assumption) (by first | omega | (simp; done) | (simp; omega) | (simp at *; omega)))))))⟩
  case round =>
    obtain ⟨k, hk, rfl, hz, hB⟩ := hrel
    by_cases hkl : k < L.length
    · obtain ⟨c0, c1⟩ := HP.out.below hB hlt k hkl
      have hsz := hB.size
      have cw := (hB.cell (p := ⟨c, 0, none⟩) hcl).trans HC.out
      have hcw : c < wr.heap.size := by omega
      have CW : Hid (∀ v : Obj, (wr.alloc v).cell? ⟨c, 0, none⟩ = some (.func (.func 82) #[] #[]) ∧ c < (wr.alloc v).heap.size) := Lib.hid fun v => ⟨(((Below.refl wr.heap.size wr).alloc (Nat.le_refl _) v).cell (p := ⟨c, 0, none⟩) hcw).trans cw, by simp; omega⟩
      obtain ⟨p0, h0⟩ : ∃ x, Hid (L[k].o = x) := ⟨L[k].o, rfl⟩
      obtain ⟨p1, h1⟩ : ∃ x, Hid (L[k].h = x) := ⟨L[k].h, rfl⟩
      rw [h0.out] at c0
      rw [h1.out] at c1
      have hpe : Hid (gpE L[k] = gasE p0 p1) := by unfold gpE Hid; rw [h0.out, h1.out]
      obtain ⟨F, hF⟩ : ∃ F, Hid (gasE p0 p1 = F) := ⟨_, Lib.hid rfl⟩
      have HK := eachGp1_is (k : Int) p0 p1 c
      rw [hF.out] at HK hpe
      have HK2 := Lib.hid HK
      clear HK cw
      rcases ez2 F with ⟨hz0, hzb⟩ | ⟨hz0, hzb⟩
      · have hz2 : Hid (∀ j, (hj : j < k + 1) → (hj' : j < L.length) → gpE L[j] = 0) := fun j hj hj' => by
          by_cases e : j = k
          · subst e; rw [hpe.out]; exact hz0.out
          · exact hz.out j (by omega) hj'
        clear hz hz0
        go_wp2_with fail
        refine (HK2.out _ (CW.out _).1 (CW.out _).2).mono ?_
        rintro e w1 ⟨rfl, hb1⟩
        have hB1 : Below w.heap.size w w1 := (by (repeat (first | (with_reducible refine Below.drew ?_) | (with_reducible refine below_drewN ?_ _) | (with_reducible refine Below.alloc ?_ (by first | omega | (simp; done) | (simp; omega) | (simp at *; omega)) _) | (with_reducible refine Below.setCell ?_ (by first | omega | (simp; done) | (simp; omega) | (simp at *; omega)) _) | (with_reducible exact Below.refl _ _) | (with_reducible assumption) | (with_reducible refine Below.trans ?_ (Below.mono (by assumption) (by first | omega | (simp; done) | (simp; omega) | (simp at *; omega)))))))
        clear hb1
        go_wp2
        go_roundw
        case rel => exact ⟨k + 1, by omega, by go_num, hz2, hB1⟩
        case measure => simp [intOf]; omega
      · have hr : Hid (E = F) := Lib.hid (by
          have h1 : gpE L[k] ≠ 0 := by rw [hpe.out]; exact hz0.out
          have h2 := fstE_at hkl (fun j hj => hz.out j hj (by omega)) h1
          rw [hpe.out, hE.out] at h2
          exact h2)
        clear hz
        go_wp2_with fail
        refine (HK2.out _ (CW.out _).1 (CW.out _).2).mono ?_
        rintro e w1 ⟨rfl, hb1⟩
        have hB1 : Below w.heap.size w w1 := (by (repeat (first | (with_reducible refine Below.drew ?_) | (with_reducible refine below_drewN ?_ _) | (with_reducible refine Below.alloc ?_ (by first | omega | (simp; done) | (simp; omega) | (simp at *; omega)) _) | (with_reducible refine Below.setCell ?_ (by first | omega | (simp; done) | (simp; omega) | (simp at *; omega)) _) | (with_reducible exact Below.refl _ _) | (with_reducible assumption) | (with_reducible refine Below.trans ?_ (Below.mono (by assumption) (by first | omega | (simp; done) | (simp; omega) | (simp at *; omega)))))))
        clear hb1
        go_wp2
        go_ret2
        exact ⟨(k : Int), by rw [hr.out]; rfl, hB1⟩
    · have hkk : k = L.length := by omega
      have hr : Hid (E = 0) := Lib.hid (by rw [← hE.out]; exact fstE_z fun j hj => hz.out j (by omega) hj)
      clear hz hkk
      go_wp2
      go_ret2
      exact ⟨0, by rw [hr.out]; rfl, hB⟩
set_option maxHeartbeats 1000000 in
theorem eachGp_any (L : List Gp) (A : Option Addr) (cap : Nat) (w : World) (hl : L.length ≤ 1000000) (hL : SlGp w A L) :
    Calls Try.prog 137 #[.slice A L.length cap, .func (.func 82) #[] #[]] w fun e w' => e = .returned (.int .i64 (fstE gpE L)) ∧ Below w.heap.size w w' := by
  have HR : Hid (∀ w' : World, Below w.heap.size w w' → SlGp w' A L) := Lib.hid fun w' hB => hL.below hB
  clear hL
  go_enter Try.func137, Try.ntmps137
  go_wp2_with fail
  refine (eachGpN_any L A cap w.heap.size _ hl (HR.out _ (by (repeat (first | (with_reducible refine Below.drew ?_) | (with_reducible refine below_drewN ?_ _) | (with_reducible refine Below.alloc ?_ (by first | omega | (simp; done) | (simp; omega) | (simp at *; omega)) _) | (with_reducible refine Below.setCell ?_ (by first | omega | (simp; done) | (simp; omega) | (simp at *; omega)) _) | (with_reducible exact Below.refl _ _) | (with_reducible assumption) | (with_reducible refine Below.trans ?_ (Below.mono (by assumption) (by first | omega | (simp; done) | (simp; omega) | (simp at *; omega)))))))) (by simp [go_sem]) (by simp)).mono ?_
  rintro e w1 ⟨i, rfl, hb1⟩
  have hB1 : Below w.heap.size w w1 := (by (repeat (first | (with_reducible refine Below.drew ?_) | (with_reducible refine below_drewN ?_ _) | (with_reducible refine Below.alloc ?_ (by first | omega | (simp; done) | (simp; omega) | (simp at *; omega)) _) | (with_reducible refine Below.setCell ?_ (by first | omega | (simp; done) | (simp; omega) | (simp at *; omega)) _) | (with_reducible exact Below.refl _ _) | (with_reducible assumption) | (with_reducible refine Below.trans ?_ (Below.mono (by assumption) (by first | omega | (simp; done) | (simp; omega) | (simp at *; omega)))))))
  clear hb1
  go_wp2
  go_ret
  exact ⟨rfl, hB1⟩
set_option maxHeartbeats 1000000 in
theorem refGases_few (L : List Gp) (A : Option Addr) (cap : Nat) (w : World) (hl : L.length ≤ 8) (hL : SlGp w A L) :
    Calls Try.prog 121 #[.slice A L.length cap] w fun e w' => e = .returned (.int .i64 (fstE gpE L)) ∧ Below w.heap.size w w' := by
  rcases hL with rfl | ⟨b, off, rfl, hlt, hL⟩
  · go_enter Try.func121, Try.ntmps121
    go_wp2
    refine wp_loop_rounds 1 ?_
    rw [rounds_succ]
    go_wp2
    go_ret
    exact ⟨rfl, (by (repeat (first | (with_reducible refine Below.drew ?_) | (with_reducible refine below_drewN ?_ _) | (with_reducible refine Below.alloc ?_ (by first | omega | (simp; done) | (simp; omega) | (simp at *; omega)) _) | (with_reducible refine Below.setCell ?_ (by first | omega | (simp; done) | (simp; omega) | (simp at *; omega)) _) | (with_reducible exact Below.refl _ _) | (with_reducible assumption) | (with_reducible refine Below.trans ?_ (Below.mono (by assumption) (by first | omega | (simp; done) | (simp; omega) | (simp at *; omega)))))))⟩
  have HP : Hid (GpAt w b off L) := hL
  clear hL
  go_enter Try.func121, Try.ntmps121
  go_wp2
  go_loopw [3] (fun i wr => ∃ k : Nat, k ≤ L.length ∧ i = .int .i64 k ∧ Hid (∀ j, (hj : j < k) → (hj' : j < L.length) → gpE L[j] = 0) ∧ Below w.heap.size w wr) (fun i _ => L.length - (intOf i).toNat)
  case atStart => exact ⟨0, by omega, rfl, fun j hj => by omega, (by (repeat (first | (with_reducible refine Below.drew ?_) | (with_reducible refine below_drewN ?_ _) | (with_reducible refine Below.alloc ?_ (by first | omega | (simp; done) | (simp; omega) | (simp at *; omega)) _) | (with_reducible refine Below.setCell ?_ (by first | omega | (simp; done) | (simp; omega) | (simp at *; omega)) _) | (with_reducible exact Below.refl _ _) | (with_reducible assumption) | (with_reducible refine Below.trans ?_ (Below.mono (by assumption) (by first | omega | (simp; done) | (simp; omega) | (simp at *; omega)))))))⟩
  case round =>
    obtain ⟨k, hk, rfl, hz, hB⟩ := hrel
    by_cases hkl : k < L.length
    · obtain ⟨c0, c1⟩ := HP.out.below hB hlt k hkl
      have hsz := hB.size
      obtain ⟨p0, h0⟩ : ∃ x, Hid (L[k].o = x) := ⟨L[k].o, rfl⟩
      obtain ⟨p1, h1⟩ : ∃ x, Hid (L[k].h = x) := ⟨L[k].h, rfl⟩
      rw [h0.out] at c0
      rw [h1.out] at c1
      have hpe : Hid (gpE L[k] = gasE p0 p1) := by unfold gpE Hid; rw [h0.out, h1.out]
      rcases ez2 (gasE p0 p1) with ⟨hz0, hzb⟩ | ⟨hz0, hzb⟩
      · have hz2 : Hid (∀ j, (hj : j < k + 1) → (hj' : j < L.length) → gpE L[j] = 0) := fun j hj hj' => by
          by_cases e : j = k
          · subst e; rw [hpe.out]; exact hz0.out
          · exact hz.out j (by omega) hj'
        clear hz hz0
        go_wp2_with ((go_at_call 28; ((with_reducible refine (refCheckGas_any _ _ _).mono ?_)); rintro e w' ⟨rfl, rfl⟩))
        go_roundw
        case rel => exact ⟨k + 1, by omega, by go_num, hz2, (by (repeat (first | (with_reducible refine Below.drew ?_) | (with_reducible refine below_drewN ?_ _) | (with_reducible refine Below.alloc ?_ (by first | omega | (simp; done) | (simp; omega) | (simp at *; omega)) _) | (with_reducible refine Below.setCell ?_ (by first | omega | (simp; done) | (simp; omega) | (simp at *; omega)) _) | (with_reducible exact Below.refl _ _) | (with_reducible assumption) | (with_reducible refine Below.trans ?_ (Below.mono (by assumption) (by first | omega | (simp; done) | (simp; omega) | (simp at *; omega)))))))⟩
        case measure => simp [intOf]; omega
      · have hr : Hid (fstE gpE L = gasE p0 p1) := by
          have h1 : gpE L[k] ≠ 0 := by rw [hpe.out]; exact hz0.out
          have h2 := fstE_at hkl (fun j hj => hz.out j hj (by omega)) h1
          rw [hpe.out] at h2
          exact h2
        clear hz
        go_wp2_with ((go_at_call 28; ((with_reducible refine (refCheckGas_any _ _ _).mono ?_)); rintro e w' ⟨rfl, rfl⟩))
        go_ret
        exact ⟨ret_int hr.out.symm, (by (repeat (first | (with_reducible refine Below.drew ?_) | (with_reducible refine below_drewN ?_ _) | (with_reducible refine Below.alloc ?_ (by first | omega | (simp; done) | (simp; omega) | (simp at *; omega)) _) | (with_reducible refine Below.setCell ?_ (by first | omega | (simp; done) | (simp; omega) | (simp at *; omega)) _) | (with_reducible exact Below.refl _ _) | (with_reducible assumption) | (with_reducible refine Below.trans ?_ (Below.mono (by assumption) (by first | omega | (simp; done) | (simp; omega) | (simp at *; omega)))))))⟩
    · have hkk : k = L.length := by omega
      have hr : Hid (fstE gpE L = 0) := fstE_z fun j hj => hz.out j (by omega) hj
      clear hz hkk
      go_wp2
      go_ret
      exact ⟨ret_int hr.out.symm, (by (repeat (first | (with_reducible refine Below.drew ?_) | (with_reducible refine below_drewN ?_ _) | (with_reducible refine Below.alloc ?_ (by first | omega | (simp; done) | (simp; omega) | (simp at *; omega)) _) | (with_reducible refine Below.setCell ?_ (by first | omega | (simp; done) | (simp; omega) | (simp at *; omega)) _) | (with_reducible exact Below.refl _ _) | (with_reducible assumption) | (with_reducible refine Below.trans ?_ (Below.mono (by assumption) (by first | omega | (simp; done) | (simp; omega) | (simp at *; omega)))))))⟩
theorem refGases_many (L : List Gp) (A : Option Addr) (cap : Nat) (w : World) (hl : 8 < L.length) (hm : L.length ≤ 1000000) :
    Calls Try.prog 121 #[.slice A L.length cap] w fun e w' => e = .returned (.int .i64 8) ∧ Below w.heap.size w w' := by
  have hl' : (8 : Int) < L.length := by omega
  go_enter Try.func121, Try.ntmps121
  go_wp2
  go_ret
  exact ⟨rfl, (by (repeat (first | (with_reducible refine Below.drew ?_) | (with_reducible refine below_drewN ?_ _) | (with_reducible refine Below.alloc ?_ (by first | omega | (simp; done) | (simp; omega) | (simp at *; omega)) _) | (with_reducible refine Below.setCell ?_ (by first | omega | (simp; done) | (simp; omega) | (simp at *; omega)) _) | (with_reducible exact Below.refl _ _) | (with_reducible assumption) | (with_reducible refine Below.trans ?_ (Below.mono (by assumption) (by first | omega | (simp; done) | (simp; omega) | (simp at *; omega)))))))⟩
set_option maxHeartbeats 1000000 in
theorem checkPlan_any (nm : Value) (s : Int) (G : List Gp) (A B : Option Addr) (cap cap' n : Nat) (w : World) (hl : G.length ≤ 1000000) (hn : n ≤ 1000000) (hG : SlGp w A G) :
    Calls Try.prog 116 #[.agg #[nm, .int .i64 s, .slice A G.length cap, .slice B n cap']] w fun e w' => e = .returned (.int .i64 (plnE s G n)) ∧ Below w.heap.size w w' := by
  have HG := Lib.hid hG
  clear hG
  rcases inB_cases s 400 1100 with hs | hs
  · have hq : rngE s 400 1100 = 0 := rngE_t hs
    by_cases h8 : 8 < G.length
    · have hr : Hid (plnE s G n = 8) := plnE_l hs h8
      have h8' : (8 : Int) < G.length := by omega
      go_enter Try.func116, Try.ntmps116
      go_wp2_with ((go_at_call 95; ((with_reducible refine (tcheckSurface_any _ _).mono ?_)); rintro e w' ⟨rfl, rfl⟩))
      go_ret
      exact ⟨ret_int hr.out.symm, (by (repeat (first | (with_reducible refine Below.drew ?_) | (with_reducible refine below_drewN ?_ _) | (with_reducible refine Below.alloc ?_ (by first | omega | (simp; done) | (simp; omega) | (simp at *; omega)) _) | (with_reducible refine Below.setCell ?_ (by first | omega | (simp; done) | (simp; omega) | (simp at *; omega)) _) | (with_reducible exact Below.refl _ _) | (with_reducible assumption) | (with_reducible refine Below.trans ?_ (Below.mono (by assumption) (by first | omega | (simp; done) | (simp; omega) | (simp at *; omega)))))))⟩
    have h8' : ¬ (8 : Int) < G.length := by omega
    obtain ⟨g, hg⟩ : ∃ g, Hid (fstE gpE G = g) := ⟨_, rfl⟩
    have HE := Lib.hid (fun w hG => by have := eachGp_any G A cap w hl hG; rw [hg.out] at this; exact this)
    have hr : Hid (plnE s G n = if g = 0 then (if 60 < n then 8 else 0) else g) := by unfold plnE Hid; rw [if_pos hs, if_neg h8, hg.out]
    clear hg h8
    go_enter Try.func116, Try.ntmps116
    go_wp2_with ((go_at_call 95; ((with_reducible refine (tcheckSurface_any _ _).mono ?_)); rintro e w' ⟨rfl, rfl⟩))
    refine (HE.out _ (HG.out.below (by (repeat (first | (with_reducible refine Below.drew ?_) | (with_reducible refine below_drewN ?_ _) | (with_reducible refine Below.alloc ?_ (by first | omega | (simp; done) | (simp; omega) | (simp at *; omega)) _) | (with_reducible refine Below.setCell ?_ (by first | omega | (simp; done) | (simp; omega) | (simp at *; omega)) _) | (with_reducible exact Below.refl _ _) | (with_reducible assumption) | (with_reducible refine Below.trans ?_ (Below.mono (by assumption) (by first | omega | (simp; done) | (simp; omega) | (simp at *; omega))))))))).mono ?_
    rintro e w1 ⟨rfl, hb1⟩
    have c1 : w1.cell? ⟨w.heap.size, 1, none⟩ = some (.int .i64 s) := by rw [(bcell hb1).1 _ _ (by first | (simp; done) | (simp; omega) | omega)]; simp [go_sem, World.cell?_alloc_past]
    have c2 : w1.cell? ⟨w.heap.size, 2, none⟩ = some (.slice A G.length cap) := by rw [(bcell hb1).1 _ _ (by first | (simp; done) | (simp; omega) | omega)]; simp [go_sem, World.cell?_alloc_past]
    have c3 : w1.cell? ⟨w.heap.size, 3, none⟩ = some (.slice B n cap') := by rw [(bcell hb1).1 _ _ (by first | (simp; done) | (simp; omega) | omega)]; simp [go_sem, World.cell?_alloc_past]
    have hB1 : Below w.heap.size w w1 := (by (repeat (first | (with_reducible refine Below.drew ?_) | (with_reducible refine below_drewN ?_ _) | (with_reducible refine Below.alloc ?_ (by first | omega | (simp; done) | (simp; omega) | (simp at *; omega)) _) | (with_reducible refine Below.setCell ?_ (by first | omega | (simp; done) | (simp; omega) | (simp at *; omega)) _) | (with_reducible exact Below.refl _ _) | (with_reducible assumption) | (with_reducible refine Below.trans ?_ (Below.mono (by assumption) (by first | omega | (simp; done) | (simp; omega) | (simp at *; omega)))))))
    clear hb1 HE
    rcases ez2 g with ⟨gz, gb⟩ | ⟨gz, gb⟩
    · by_cases h6 : 60 < n
      · have h6' : (60 : Int) < n := by omega
        have hr2 : Hid (plnE s G n = 8) := by show _ = _; rw [hr.out, if_pos gz.out, if_pos h6]
        clear hr gz
        go_wp2
        go_ret
        exact ⟨ret_int hr2.out.symm, hB1⟩
      · have h6' : ¬ (60 : Int) < n := by omega
        have hr2 : Hid (plnE s G n = 0) := by show _ = _; rw [hr.out, if_pos gz.out, if_neg h6]
        clear hr gz
        go_wp2
        go_ret
        exact ⟨ret_int hr2.out.symm, hB1⟩
    · have hr2 : Hid (plnE s G n = g) := by show _ = _; rw [hr.out, if_neg gz.out]
      clear hr gz
      go_wp2
      go_ret
      exact ⟨ret_int hr2.out.symm, hB1⟩
  · have hq : rngE s 400 1100 = 2 := rngE_f hs
    have hr : Hid (plnE s G n = 2) := plnE_s hs
    go_enter Try.func116, Try.ntmps116
    go_wp2_with ((go_at_call 95; ((with_reducible refine (tcheckSurface_any _ _).mono ?_)); rintro e w' ⟨rfl, rfl⟩))
    go_ret
    exact ⟨ret_int hr.out.symm, (by (repeat (first | (with_reducible refine Below.drew ?_) | (with_reducible refine below_drewN ?_ _) | (with_reducible refine Below.alloc ?_ (by first | omega | (simp; done) | (simp; omega) | (simp at *; omega)) _) | (with_reducible refine Below.setCell ?_ (by first | omega | (simp; done) | (simp; omega) | (simp at *; omega)) _) | (with_reducible exact Below.refl _ _) | (with_reducible assumption) | (with_reducible refine Below.trans ?_ (Below.mono (by assumption) (by first | omega | (simp; done) | (simp; omega) | (simp at *; omega)))))))⟩
set_option maxHeartbeats 1000000 in
theorem checkDiveLeg_any (s d g dep : Int) (ng : Nat) (E : Int) (w : World) (hn : ng ≤ 1000000) (hE : Hid (dlE s d g dep ng = E)) :
    Calls Try.prog 117 #[.agg #[.int .i64 s, .int .i64 d, .int .i64 g], .int .i64 dep, .int .i64 ng] w fun e w' => e = .returned (.int .i64 E) ∧ w.alloc (.cells #[.int .i64 s, .int .i64 d, .int .i64 g] 163) = w' := by
  have hE1 := hE.out
  unfold dlE at hE1
  clear hE
  rcases inB_cases s 0 100000 with h1 | h1
  · rcases inB_cases d 0 30000 with h2 | h2
    · rcases inB_cases g 0 ((ng : Int) - 1) with h3 | h3
      · rw [if_pos ⟨h1, h2⟩, if_pos h3] at hE1
        by_cases hs : s = 0
        · by_cases hd : d = dep
          · rw [if_neg (by simp [hd])] at hE1
            have k1 : (s == 0) = true := by simp [hs]
            have k2 : (d != dep) = false := by simp [hd]
            have hr := Lib.hid hE1
            clear hE1 hs hd
            go_enter Try.func117, Try.ntmps117
            go_wp2_with ((go_at_call 123; ((with_reducible refine (cWithin_any _ _ _ _).mono ?_)); rintro e w' ⟨rfl, rfl⟩))
            go_ret
            exact ⟨ret_int hr.out, rfl⟩
          · rw [if_pos ⟨hs, hd⟩] at hE1
            have k1 : (s == 0) = true := by simp [hs]
            have k2 : (d != dep) = true := by simp [hd]
            have hr := Lib.hid hE1
            clear hE1 hs hd
            go_enter Try.func117, Try.ntmps117
            go_wp2_with ((go_at_call 123; ((with_reducible refine (cWithin_any _ _ _ _).mono ?_)); rintro e w' ⟨rfl, rfl⟩))
            go_ret
            exact ⟨ret_int hr.out, rfl⟩
        · rw [if_neg (fun h => hs h.1)] at hE1
          have k1 : (s == 0) = false := by simp [hs]
          have hr := Lib.hid hE1
          clear hE1 hs
          go_enter Try.func117, Try.ntmps117
          go_wp2_with ((go_at_call 123; ((with_reducible refine (cWithin_any _ _ _ _).mono ?_)); rintro e w' ⟨rfl, rfl⟩))
          go_ret
          exact ⟨ret_int hr.out, rfl⟩
      · rw [if_pos ⟨h1, h2⟩, if_neg (by rw [h3]; exact Bool.false_ne_true)] at hE1
        have hr := Lib.hid hE1
        clear hE1
        go_enter Try.func117, Try.ntmps117
        go_wp2_with ((go_at_call 123; ((with_reducible refine (cWithin_any _ _ _ _).mono ?_)); rintro e w' ⟨rfl, rfl⟩))
        go_ret
        exact ⟨ret_int hr.out, rfl⟩
    · rw [if_neg (by rw [h2]; simp)] at hE1
      have hr := Lib.hid hE1
      clear hE1
      go_enter Try.func117, Try.ntmps117
      go_wp2_with ((go_at_call 123; ((with_reducible refine (cWithin_any _ _ _ _).mono ?_)); rintro e w' ⟨rfl, rfl⟩))
      go_ret
      exact ⟨ret_int hr.out, rfl⟩
  · rw [if_neg (by rw [h1]; simp)] at hE1
    have hr := Lib.hid hE1
    clear hE1
    go_enter Try.func117, Try.ntmps117
    go_wp2_with ((go_at_call 123; ((with_reducible refine (cWithin_any _ _ _ _).mono ?_)); rintro e w' ⟨rfl, rfl⟩))
    go_ret
    exact ⟨ret_int hr.out, rfl⟩
theorem PressureAt_is (s d x : Int) (w : World) (hs : inB s 400 1100 = true) (hd : inB d 0 30000 = true) (hx : Hid (s + d = x)) :
    Calls Try.prog 118 #[.int .i64 s, .int .i64 d] w fun e w' => e = .returned (.tuple #[.int .i64 x, .int .i64 0]) ∧ Below w.heap.size w w' := by
  have hE : plE s d = 0 := by unfold plE; rw [rngE_t hs, rngE_t hd]; rfl
  have hP : plP s d = x := by unfold plP; rw [if_pos hE]; exact hx.out
  have := PressureAt_any s d w
  rw [hE, hP] at this
  exact this
theorem refIsSurface_any (n : Int) (w : World) :
    Calls Try.prog 44 #[.int .i64 n] w fun e w' => e = .returned (.bool (inB n 400 1100)) ∧ w = w' := by
  go_enter Try.func44, Try.ntmps44
  go_wp2_with ((go_at_call 18; ((with_reducible refine (baseWithin_any _ _ _ _).mono ?_)); rintro e w' ⟨rfl, rfl⟩))
  go_ret
  exact ⟨rfl, rfl⟩
end Go.Proofs.Ytchfhhmmjioajaa

/- What tissue.LegsOf returns. -/
namespace Go.Proofs.Ytchfhhmmjioajaa
open Go.ChangeShapes Go.WideShapes Go.ChangeAt Go.RowKit
set_option linter.unusedVariables false
set_option linter.unusedSimpArgs false
attribute [local go_sem ↓] Go.wp_at_zero Go.wp_at_succ
theorem oper_append_own_at {P : Program} {w : World} {o : Oper} {a : Act} {K : Act → World → Prop} {Q : Exit → Act → World → Prop} (s x : Operand) (t : TypeId)
    (ho : o.op = .call { callee := .builtin .append, args := #[s, x], argTypes := #[t, t] })
    (base : Nat) (e : TypeId) (i : TypeInfo) (z : Value) (size bytes : Nat) (ht : P.underlying t = some (.slice e)) (hi : P.info? e = some i) (hz : i.zero = some z)
    (hsize : i.size = size) (hby : i.bytes = bytes) (hzs : z.cells.size = size) (hsz : 0 < size)
    (v : Value) (n : Nat) (xs : List Value) (hs : a.eval s = v) (hown : w.ownsRow base e size v n xs)
    (ad : Addr) (m c : Nat) (news : List Value) (hx : a.eval x = .slice (some ad) m c) (hl : news.length = m * size) (hnews : ∀ j u, news[j]? = some u → w.cell? (ad.add j) = some u) (h1 : ∀ u ∈ news, u.oneCell' = true)
    (h63 : n + m ≤ maxLen) (hbytes : (n + m) * bytes ≤ 140737488355328) (hbase : base ≤ w.heap.size)
    (h : ∀ v' w', w'.ownsRow base e size v' (n + m) (xs ++ news) → w.grownBy w' v.ownBlock → K (a.put o.dst v') w') : o.wp P a w K Q := by
  obtain ⟨v', w', hr, h2, h3, _, _⟩ := run_append_own_at (P := P) w base t o.type e i z size bytes ht hi hz hsize hby hzs hsz v n xs hown ad m c news hl hnews h1 h63 hbytes hbase
  unfold Oper.wp execOp
  simp only [ho, resolve, invoke, builtin, Sem.run_bind, Sem.run_pure, Result.andThen_ok, List.map_toArray, List.map_cons, List.map_nil, hs, hx, hr]
  exact h v' w' h2 h3
/-- The depth at which the k-th leg begins; its error; the leg. -/
def depAt (L : List Dl) (k : Nat) : Int := if k = 0 then 0 else (L.getD (k - 1) default).d
def errAt (L : List Dl) (ng : Nat) (k : Nat) : Int := dlE (L.getD k default).s (L.getD k default).d (L.getD k default).g (depAt L k) ng
def legAt (s : Int) (G : List Gp) (L : List Dl) (k : Nat) : Tl := ⟨s + depAt L k, s + (L.getD k default).d, (L.getD k default).s, (G.getD (L.getD k default).g.toNat default).o, (G.getD (L.getD k default).g.toNat default).h⟩
/-- The first error among the first n. -/
def fstN (f : Nat → Int) : Nat → Int
  | 0 => 0
  | k + 1 => if fstN f k = 0 then f k else fstN f k
theorem fstN_s {f : Nat → Int} {k : Nat} (hz : fstN f k = 0) (h0 : f k = 0) : fstN f (k + 1) = 0 := by
  unfold fstN; rw [if_pos hz]; exact h0
theorem fstN_at {f : Nat → Int} {k n : Nat} (hk : k < n) (hz : fstN f k = 0) (hn : f k ≠ 0) : fstN f n = f k := by
  induction n with
  | zero => omega
  | succ n ih =>
    unfold fstN
    by_cases e : k = n
    · subst e; rw [if_pos hz]
    · have := ih (by omega)
      rw [this, if_neg hn]
theorem fstN_all {f : Nat → Int} {n : Nat} (h : fstN f n = 0) : ∀ k, k < n → f k = 0 := by
  induction n with
  | zero => intro k hk; omega
  | succ n ih =>
    unfold fstN at h
    by_cases e : fstN f n = 0
    · rw [if_pos e] at h
      intro k hk
      by_cases e2 : k = n
      · subst e2; exact h
      · exact ih e k (by omega)
    · rw [if_neg e] at h; exact absurd h e
def totE (s : Int) (G : List Gp) (L : List Dl) : Int := if plnE s G L.length = 0 then fstN (errAt L G.length) L.length else plnE s G L.length
def legsV (s : Int) (G : List Gp) (L : List Dl) (n : Nat) : List Tl := (List.range n).map (legAt s G L)
theorem legsV_len (s : Int) (G : List Gp) (L : List Dl) (n : Nat) : (legsV s G L n).length = n := by simp [legsV]
theorem legsV_at {s : Int} {G : List Gp} {L : List Dl} {n k : Nat} (hk : k < (legsV s G L n).length) : (legsV s G L n)[k] = legAt s G L k := by simp [legsV]
theorem tlc_s (s : Int) (G : List Gp) (L : List Dl) (k : Nat) : tlc (legsV s G L (k + 1)) = tlc (legsV s G L k) ++ [.int .i64 (legAt s G L k).f, .int .i64 (legAt s G L k).t, .int .i64 (legAt s G L k).s, .int .i64 (legAt s G L k).o, .int .i64 (legAt s G L k).h] := by
  unfold legsV
  rw [List.range_succ, List.map_append]
  unfold tlc
  rw [List.flatMap_append]
  rfl
theorem getD_is {α : Type} [Inhabited α] {P : List α} {k : Nat} (hk : k < P.length) : P.getD k default = P[k] := by simp [List.getD, hk]
theorem depAt_s {L : List Dl} {k : Nat} (hk : k < L.length) : depAt L (k + 1) = L[k].d := by
  unfold depAt
  rw [if_neg (by omega), Nat.add_sub_cancel, getD_is hk]
theorem depAt_bd {L : List Dl} {ng k : Nat} (hk : k ≤ L.length) (h : fstN (errAt L ng) k = 0) : 0 ≤ depAt L k ∧ depAt L k ≤ 30000 := by
  cases k with
  | zero => unfold depAt; simp
  | succ k =>
    have := fstN_all h k (by omega)
    unfold errAt at this
    have hb := (dlE_ok this).2.1
    unfold depAt
    rw [if_neg (by omega), Nat.add_sub_cancel]
    exact hb
/-- LegsOf returned the legs of a plan, or its error. -/
def LegsPost (s : Int) (G : List Gp) (L : List Dl) (w : World) (e : Ending) (w' : World) : Prop := Below w.heap.size w w' ∧ ((totE s G L ≠ 0 ∧ e = .returned (.tuple #[.slice none 0 0, .int .i64 (totE s G L)])) ∨ (totE s G L = 0 ∧ ∃ A cap, e = .returned (.tuple #[.slice A L.length cap, .int .i64 0]) ∧ SlTl w' A (legsV s G L L.length)))
set_option maxRecDepth 100000 in
set_option maxHeartbeats 4000000 in
theorem LegsOf_any (nm : Value) (s : Int) (G : List Gp) (L : List Dl) (A B : Option Addr) (cap cap' : Nat) (w : World) (hl : G.length ≤ 1000000) (hn : L.length ≤ 1000000) (hG : SlGp w A G) (hL : SlDl w B L) :
    Calls Try.prog 65 #[.agg #[nm, .int .i64 s, .slice A G.length cap, .slice B L.length cap']] w (LegsPost s G L w) := by
  have HG := Lib.hid hG
  have HL := Lib.hid hL
  clear hG hL
  obtain ⟨i0, hi, hz0, hz1, hz2⟩ := info_parts infoTl
  have HI := Lib.hid hi
  have HZ0 := Lib.hid hz0
  have HZ1 := Lib.hid hz1
  have HZ2 := Lib.hid hz2
  clear hi hz0 hz1 hz2
  obtain ⟨E, hE⟩ : ∃ E, Hid (plnE s G L.length = E) := ⟨_, rfl⟩
  have HC := Lib.hid (fun w hG => by have := checkPlan_any nm s G A B cap cap' L.length w hl hn hG; rw [hE.out] at this; exact this)
  go_enter Try.func65, Try.ntmps65
  go_wp2_with fail
  refine (HC.out _ (HG.out.below (by (repeat (first | (with_reducible refine Below.drew ?_) | (with_reducible refine below_drewN ?_ _) | (with_reducible refine Below.alloc ?_ (by first | omega | (simp; done) | (simp; omega) | (simp at *; omega)) _) | (with_reducible refine Below.setCell ?_ (by first | omega | (simp; done) | (simp; omega) | (simp at *; omega)) _) | (with_reducible exact Below.refl _ _) | (with_reducible assumption) | (with_reducible refine Below.trans ?_ (Below.mono (by assumption) (by first | omega | (simp; done) | (simp; omega) | (simp at *; omega))))))))).mono ?_
  rintro e w1 ⟨rfl, hb1⟩
  have c1 : w1.cell? ⟨w.heap.size, 1, none⟩ = some (.int .i64 s) := by rw [(bcell hb1).1 _ _ (by first | (simp; done) | (simp; omega) | omega)]; simp [go_sem, World.cell?_alloc_past]
  have c2 : w1.cell? ⟨w.heap.size, 2, none⟩ = some (.slice A G.length cap) := by rw [(bcell hb1).1 _ _ (by first | (simp; done) | (simp; omega) | omega)]; simp [go_sem, World.cell?_alloc_past]
  have c3 : w1.cell? ⟨w.heap.size, 3, none⟩ = some (.slice B L.length cap') := by rw [(bcell hb1).1 _ _ (by first | (simp; done) | (simp; omega) | omega)]; simp [go_sem, World.cell?_alloc_past]
  have hB1 : Below w.heap.size w w1 := (by (repeat (first | (with_reducible refine Below.drew ?_) | (with_reducible refine below_drewN ?_ _) | (with_reducible refine Below.alloc ?_ (by first | omega | (simp; done) | (simp; omega) | (simp at *; omega)) _) | (with_reducible refine Below.setCell ?_ (by first | omega | (simp; done) | (simp; omega) | (simp at *; omega)) _) | (with_reducible exact Below.refl _ _) | (with_reducible assumption) | (with_reducible refine Below.trans ?_ (Below.mono (by assumption) (by first | omega | (simp; done) | (simp; omega) | (simp at *; omega)))))))
  have z1 := hb1.size
  try simp at z1
  have o1 : w.heap.size < w1.heap.size := by omega
  have n1 : w1.heap.size ≠ w.heap.size := by omega
  have HG1 := Lib.hid (HG.out.below hB1)
  have HL1 := Lib.hid (HL.out.below hB1)
  clear hb1 HC HG HL z1
  rcases ez2 E with ⟨gz, gb⟩ | ⟨gz, gb⟩
  rotate_left
  · have hT : Hid (totE s G L = E) := by unfold totE Hid; rw [if_neg (by rw [hE.out]; exact gz.out), hE.out]
    have hne : Hid (totE s G L ≠ 0) := by show _ ≠ _; rw [hT.out]; exact gz.out
    clear gz hE
    go_wp2
    go_ret2
    exact ⟨hB1, Or.inl ⟨hne.out, by rw [hT.out]; rfl⟩⟩
  have hT : Hid (totE s G L = fstN (errAt L G.length) L.length) := by unfold totE Hid; rw [if_pos (hE.out.trans gz.out)]
  obtain ⟨p1, p2, p3, p4⟩ := plnE_ok (hE.out.trans gz.out)
  obtain ⟨q1, q2⟩ := inB_iff.1 p1
  have HP4 := Lib.hid p4
  clear gz hE p4
  go_wp2
  go_loopw [5, 6, 22] (fun v d i wr => ∃ k : Nat, k ≤ L.length ∧ i = .int .i64 k ∧ d = .int .i64 (depAt L k) ∧ Hid (fstN (errAt L G.length) k = 0) ∧ Hid (wr.ownsRow w1.heap.size 55 5 v k (tlc (legsV s G L k))) ∧ Below w1.heap.size w1 wr) (fun _ _ i _ => L.length - (intOf i).toNat)
  case atStart => exact ⟨0, by omega, rfl, rfl, rfl, World.ownsRow_nil _ _ _ _, (by (repeat (first | (with_reducible refine Below.drew ?_) | (with_reducible refine below_drewN ?_ _) | (with_reducible refine Below.alloc ?_ (by first | omega | (simp; done) | (simp; omega) | (simp at *; omega)) _) | (with_reducible refine Below.setCell ?_ (by first | omega | (simp; done) | (simp; omega) | (simp at *; omega)) _) | (with_reducible exact Below.refl _ _) | (with_reducible assumption) | (with_reducible refine Below.trans ?_ (Below.mono (by assumption) (by first | omega | (simp; done) | (simp; omega) | (simp at *; omega)))))))⟩
  case round =>
    obtain ⟨k, hk, rfl, rfl, hz, HO, hB⟩ := hrel
    have sz := hB.size
    replace c1 := (hB.cell (p := ⟨w.heap.size, 1, none⟩) o1).trans c1
    replace c2 := (hB.cell (p := ⟨w.heap.size, 2, none⟩) o1).trans c2
    replace c3 := (hB.cell (p := ⟨w.heap.size, 3, none⟩) o1).trans c3
    have o2 : w.heap.size < wr.heap.size := by omega
    have n2 : wr.heap.size ≠ w.heap.size := by omega
    have hBr : Below w.heap.size w wr := hB1.trans (hB.mono hB1.size)
    have HGr := Lib.hid (HG1.out.below hB)
    obtain ⟨db1, db2⟩ := depAt_bd hk hz.out
    obtain ⟨dp, hdp⟩ : ∃ z, Hid (depAt L k = z) := ⟨_, rfl⟩
    rw [hdp.out] at db1 db2 ⊢
    by_cases hkl : k < L.length
    · have hkl2 : (k : Int) < L.length := by omega
      rcases (HL1.out.below hB : SlDl wr B L) with hnil | ⟨lb, lo, hBB, llt, LL⟩
      · rw [hnil] at hkl; simp at hkl
      subst hBB
      obtain ⟨l0, l1, l2⟩ := LL k hkl
      have hgd : L.getD k default = L[k] := getD_is hkl
      have hds : Hid (depAt L (k + 1) = L[k].d) := depAt_s hkl
      obtain ⟨q, hq⟩ : ∃ z, Hid (errAt L G.length k = z) := ⟨_, rfl⟩
      have hq1 : errAt L G.length k = dlE L[k].s L[k].d L[k].g dp G.length := by unfold errAt; rw [hgd, hdp.out]
      have hlg : legAt s G L k = ⟨s + dp, s + L[k].d, L[k].s, (G.getD L[k].g.toNat default).o, (G.getD L[k].g.toNat default).h⟩ := by unfold legAt; rw [hgd, hdp.out]
      have HN := Lib.hid (tlc_s s G L k)
      rw [hlg] at HN
      dsimp only at HN
      obtain ⟨ls, hls⟩ : ∃ z, Hid (L[k].s = z) := ⟨L[k].s, Lib.hid rfl⟩
      obtain ⟨ld, hld⟩ : ∃ z, Hid (L[k].d = z) := ⟨L[k].d, Lib.hid rfl⟩
      obtain ⟨lg, hlgg⟩ : ∃ z, Hid (L[k].g = z) := ⟨L[k].g, Lib.hid rfl⟩
      rw [hls.out] at l0 hq1 HN
      rw [hld.out] at l1 hq1 hds HN
      rw [hlgg.out] at l2 hq1 HN
      have hq2 : Hid (dlE ls ld lg dp G.length = q) := by show _ = _; rw [← hq1]; exact hq.out
      have llt2 : wr.heap.size ≠ lb := by omega
      clear LL hgd hlg hls hld hlgg hq1
      go_wp2_with fail
      refine (checkDiveLeg_any ls ld lg dp G.length q _ (by omega) hq2).mono ?_
      rintro e w2 ⟨rfl, h2⟩
      have hB2 : Below wr.heap.size wr w2 := by rw [← h2]; (repeat (first | (with_reducible refine Below.drew ?_) | (with_reducible refine below_drewN ?_ _) | (with_reducible refine Below.alloc ?_ (by first | omega | (simp; done) | (simp; omega) | (simp at *; omega)) _) | (with_reducible refine Below.setCell ?_ (by first | omega | (simp; done) | (simp; omega) | (simp at *; omega)) _) | (with_reducible exact Below.refl _ _) | (with_reducible assumption) | (with_reducible refine Below.trans ?_ (Below.mono (by assumption) (by first | omega | (simp; done) | (simp; omega) | (simp at *; omega))))))
      have s2 : wr.heap.size < w2.heap.size := by rw [← h2]; simp; omega
      have d0 : w2.cell? ⟨wr.heap.size, 0, none⟩ = some (.int .i64 ls) := by rw [← h2]; simp [go_sem, World.cell?_alloc_past]
      have d1 : w2.cell? ⟨wr.heap.size, 1, none⟩ = some (.int .i64 ld) := by rw [← h2]; simp [go_sem, World.cell?_alloc_past]
      have d2 : w2.cell? ⟨wr.heap.size, 2, none⟩ = some (.int .i64 lg) := by rw [← h2]; simp [go_sem, World.cell?_alloc_past]
      clear h2
      replace c1 := (hB2.cell (p := ⟨w.heap.size, 1, none⟩) o2).trans c1
      replace c2 := (hB2.cell (p := ⟨w.heap.size, 2, none⟩) o2).trans c2
      replace c3 := (hB2.cell (p := ⟨w.heap.size, 3, none⟩) o2).trans c3
      rcases ez2 q with ⟨gz, gb⟩ | ⟨gz, gb⟩
      rotate_left
      · have hT2 : Hid (totE s G L = q) := by
          have h1 : errAt L G.length k ≠ 0 := by rw [hq.out]; exact gz.out
          show _ = _
          rw [hT.out, fstN_at hkl hz.out h1, hq.out]
        have hne : Hid (totE s G L ≠ 0) := by show _ ≠ _; rw [hT2.out]; exact gz.out
        have hBf : Below w.heap.size w w2 := hBr.trans (hB2.mono hBr.size)
        clear gz hq hq2 hT hz HN
        go_wp2
        go_ret2
        exact ⟨hBf, Or.inl ⟨hne.out, by rw [hT2.out]; rfl⟩⟩
      have hz2 : Hid (fstN (errAt L G.length) (k + 1) = 0) := fstN_s hz.out (hq.out.trans gz.out)
      obtain ⟨b1, b2, b3, b4⟩ := dlE_ok (hq2.out.trans gz.out)
      have hld : inB ld 0 30000 = true := inB_true b2.1 b2.2
      have hdd : inB dp 0 30000 = true := inB_true db1 db2
      obtain ⟨gn, hgn⟩ : ∃ n : Nat, lg = n := ⟨lg.toNat, by omega⟩
      subst hgn
      rw [Int.toNat_natCast] at HN
      have hgl : gn < G.length := by omega
      have hgl2 : (gn : Int) < G.length := by omega
      rcases HG1.out with hnil | ⟨gb', go, hAA, glt1, GG1⟩
      · rw [hnil] at hgl; simp at hgl
      have GG := GG1.below hB glt1
      have glt : gb' < wr.heap.size := by omega
      clear GG1
      subst hAA
      obtain ⟨g0, g1⟩ := GG gn hgl
      have hgd : G.getD gn default = G[gn] := getD_is hgl
      rw [hgd] at HN
      obtain ⟨go', hgo⟩ : ∃ z, Hid (G[gn].o = z) := ⟨G[gn].o, Lib.hid rfl⟩
      obtain ⟨gh', hgh⟩ : ∃ z, Hid (G[gn].h = z) := ⟨G[gn].h, Lib.hid rfl⟩
      rw [hgo.out] at g0 HN
      rw [hgh.out] at g1 HN
      replace g0 := (hB2.cell (p := ⟨gb', go + gn * 2, none⟩) glt).trans g0
      replace g1 := (hB2.cell (p := ⟨gb', go + gn * 2 + 1, none⟩) glt).trans g1
      obtain ⟨x1, hx1⟩ : ∃ z, Hid (s + dp = z) := ⟨_, rfl⟩
      obtain ⟨x2, hx2⟩ : ∃ z, Hid (s + ld = z) := ⟨_, rfl⟩
      rw [hx1.out, hx2.out] at HN
      have lw2 : lb < w2.heap.size := by omega
      have gw2 : gb' < w2.heap.size := by omega
      have ow2 : w.heap.size < w2.heap.size := by omega
      clear GG hgd hgo hgh gz hq hq2 hz l0 l1 l2 b1 b4 HGr
      go_wp2_with fail
      refine (PressureAt_is s dp x1 _ p1 hdd hx1).mono ?_
      rintro e w3 ⟨rfl, hb3⟩
      replace c1 := (hb3.cell (p := ⟨w.heap.size, 1, none⟩) ow2).trans c1
      replace c2 := (hb3.cell (p := ⟨w.heap.size, 2, none⟩) ow2).trans c2
      replace c3 := (hb3.cell (p := ⟨w.heap.size, 3, none⟩) ow2).trans c3
      replace d0 := (hb3.cell (p := ⟨wr.heap.size, 0, none⟩) s2).trans d0
      replace d1 := (hb3.cell (p := ⟨wr.heap.size, 1, none⟩) s2).trans d1
      replace d2 := (hb3.cell (p := ⟨wr.heap.size, 2, none⟩) s2).trans d2
      replace g0 := (hb3.cell (p := ⟨gb', go + gn * 2, none⟩) gw2).trans g0
      replace g1 := (hb3.cell (p := ⟨gb', go + gn * 2 + 1, none⟩) gw2).trans g1
      have s3 := hb3.size
      have hB3 : Below wr.heap.size wr w3 := hB2.trans (hb3.mono hB2.size)
      have ow3 : w.heap.size < w3.heap.size := by omega
      have rw3 : wr.heap.size < w3.heap.size := by omega
      have gw3 : gb' < w3.heap.size := by omega
      clear hb3 hB2
      go_wp2_with fail
      refine (PressureAt_is s ld x2 _ p1 hld hx2).mono ?_
      rintro e w4 ⟨rfl, hb4⟩
      replace c1 := (hb4.cell (p := ⟨w.heap.size, 1, none⟩) ow3).trans c1
      replace c2 := (hb4.cell (p := ⟨w.heap.size, 2, none⟩) ow3).trans c2
      replace c3 := (hb4.cell (p := ⟨w.heap.size, 3, none⟩) ow3).trans c3
      replace d0 := (hb4.cell (p := ⟨wr.heap.size, 0, none⟩) rw3).trans d0
      replace d1 := (hb4.cell (p := ⟨wr.heap.size, 1, none⟩) rw3).trans d1
      replace d2 := (hb4.cell (p := ⟨wr.heap.size, 2, none⟩) rw3).trans d2
      replace g0 := (hb4.cell (p := ⟨gb', go + gn * 2, none⟩) gw3).trans g0
      replace g1 := (hb4.cell (p := ⟨gb', go + gn * 2 + 1, none⟩) gw3).trans g1
      have s4 := hb4.size
      have hB4 : Below wr.heap.size wr w4 := hB3.trans (hb4.mono hB3.size)
      have ow4 : w.heap.size < w4.heap.size := by omega
      have rw4 : wr.heap.size < w4.heap.size := by omega
      have gw4 : gb' < w4.heap.size := by omega
      clear hb4 hB3
      go_upto_region 14 with (fail)
      have HS : Hid (∀ w', Below w4.heap.size w4 w' → w'.cell? ⟨w.heap.size, 2, none⟩ = some (.slice (some ⟨gb', go, none⟩) G.length cap) ∧ w'.cell? ⟨wr.heap.size, 0, none⟩ = some (.int .i64 ls) ∧ w'.cell? ⟨wr.heap.size, 1, none⟩ = some (.int .i64 ld) ∧ w'.cell? ⟨wr.heap.size, 2, none⟩ = some (.int .i64 gn) ∧ w'.cell? ⟨gb', go + gn * 2, none⟩ = some (.int .i64 go') ∧ w'.cell? ⟨gb', go + gn * 2 + 1, none⟩ = some (.int .i64 gh')) := fun w' hb => ⟨(hb.cell (p := ⟨w.heap.size, 2, none⟩) ow4).trans c2, (hb.cell (p := ⟨wr.heap.size, 0, none⟩) rw4).trans d0, (hb.cell (p := ⟨wr.heap.size, 1, none⟩) rw4).trans d1, (hb.cell (p := ⟨wr.heap.size, 2, none⟩) rw4).trans d2, (hb.cell (p := ⟨gb', go + gn * 2, none⟩) gw4).trans g0, (hb.cell (p := ⟨gb', go + gn * 2 + 1, none⟩) gw4).trans g1⟩
      clear c1 c2 c3 d0 d1 d2 g0 g1
      refine wp_region_held_drew (S := (fun w' => w'.cell? ⟨w.heap.size, 2, none⟩ = some (.slice (some ⟨gb', go, none⟩) G.length cap) ∧ w'.cell? ⟨wr.heap.size, 0, none⟩ = some (.int .i64 ls) ∧ w'.cell? ⟨wr.heap.size, 1, none⟩ = some (.int .i64 ld) ∧ w'.cell? ⟨wr.heap.size, 2, none⟩ = some (.int .i64 gn) ∧ w'.cell? ⟨gb', go + gn * 2, none⟩ = some (.int .i64 go') ∧ w'.cell? ⟨gb', go + gn * 2 + 1, none⟩ = some (.int .i64 gh'))) (by kernel_rfl) (by exact HS.out _ (Below.refl w4.heap.size w4).drew) (fun hHeld => ?_)
      have hB0 : Below w4.heap.size w4 w4.drew := (Below.refl w4.heap.size w4).drew
      generalize hdr : w4.drew = u0 at *
      have s04 : wr.heap.size ≤ w4.heap.size := by omega
      clear hdr
      refine wpAnyH_take (i := 0) (oi := ⟨some 50, _, _, _, _, _⟩) (v := ?_) rfl (by kernel_rfl) (by kernel_rfl) (by kernel_rfl) (fun _ _ _ h => h) (Or.inl ⟨by kernel_rfl, ?_⟩) (by assumption) ?_
      rotate_left
      · (intro w hSw; (try dsimp only at hSw); go_simp; all_goals with_reducible rfl)
      try simp only [Act.put, List.setIfInBounds_toArray, List.set_cons_zero, List.set_cons_succ]
      refine wpAnyH_take (i := 1) (oi := ⟨some 51, _, _, _, _, _⟩) (v := ?_) rfl (by kernel_rfl) (by kernel_rfl) (by kernel_rfl) (fun _ _ _ h => h) (Or.inl ⟨by kernel_rfl, ?_⟩) (by assumption) ?_
      rotate_left
      · (intro w hSw; (try dsimp only at hSw); go_simp; all_goals with_reducible rfl)
      try simp only [Act.put, List.setIfInBounds_toArray, List.set_cons_zero, List.set_cons_succ]
      refine wpAnyH_take (i := 2) (oi := ⟨some 52, _, _, _, _, _⟩) (v := ?_) rfl (by kernel_rfl) (by kernel_rfl) (by kernel_rfl) (fun _ _ _ h => h) (Or.inl ⟨by kernel_rfl, ?_⟩) (by assumption) ?_
      rotate_left
      · (intro w hSw; (try dsimp only at hSw); go_simp; all_goals with_reducible rfl)
      try simp only [Act.put, List.setIfInBounds_toArray, List.set_cons_zero, List.set_cons_succ]
      refine wpAnyH_take (i := 3) (oi := ⟨some 53, _, _, _, _, _⟩) (v := ?_) rfl (by kernel_rfl) (by kernel_rfl) (by kernel_rfl) (fun _ _ _ h => h) (Or.inl ⟨by kernel_rfl, ?_⟩) (by assumption) ?_
      rotate_left
      · (intro w hSw; (try dsimp only at hSw); go_simp; all_goals with_reducible rfl)
      try simp only [Act.put, List.setIfInBounds_toArray, List.set_cons_zero, List.set_cons_succ]
      refine wpAnyH_take (i := 4) (oi := ⟨some 54, _, _, _, _, _⟩) (v := ?_) rfl (by kernel_rfl) (by kernel_rfl) (by kernel_rfl) (fun _ _ _ h => h) (Or.inl ⟨by kernel_rfl, ?_⟩) (by assumption) ?_
      rotate_left
      · (intro w hSw; (try dsimp only at hSw); go_simp; all_goals with_reducible rfl)
      try simp only [Act.put, List.setIfInBounds_toArray, List.set_cons_zero, List.set_cons_succ]
      refine wpAnyH_take (i := 5) (oi := ⟨some 55, _, _, _, _, _⟩) (v := ?_) rfl (by kernel_rfl) (by kernel_rfl) (by kernel_rfl) (fun _ _ _ h => h) (Or.inl ⟨by kernel_rfl, ?_⟩) (by assumption) ?_
      rotate_left
      · (intro w hSw; (try dsimp only at hSw); go_simp; all_goals with_reducible rfl)
      try simp only [Act.put, List.setIfInBounds_toArray, List.set_cons_zero, List.set_cons_succ]
      refine wpAnyH_take (i := 6) (oi := ⟨some 56, _, _, _, _, _⟩) (v := ?_) rfl (by kernel_rfl) (by kernel_rfl) (by kernel_rfl) (fun _ _ _ h => h) (Or.inl ⟨by kernel_rfl, ?_⟩) (by assumption) ?_
      rotate_left
      · (intro w hSw; (try dsimp only at hSw); go_simp; all_goals with_reducible rfl)
      try simp only [Act.put, List.setIfInBounds_toArray, List.set_cons_zero, List.set_cons_succ]
      refine wpAnyH_take (i := 7) (oi := ⟨some 57, _, _, _, _, _⟩) (v := ?_) rfl (by kernel_rfl) (by kernel_rfl) (by kernel_rfl) (fun _ _ _ h => h) (Or.inl ⟨by kernel_rfl, ?_⟩) (by assumption) ?_
      rotate_left
      · (intro w hSw; (try dsimp only at hSw); go_simp; all_goals with_reducible rfl)
      try simp only [Act.put, List.setIfInBounds_toArray, List.set_cons_zero, List.set_cons_succ]
      refine wpAnyH_take (i := 8) (oi := ⟨some 58, _, _, _, _, _⟩) (v := ?_) rfl (by kernel_rfl) (by kernel_rfl) (by kernel_rfl) (fun _ _ _ h => h) (Or.inl ⟨by kernel_rfl, ?_⟩) (by assumption) ?_
      rotate_left
      · (intro w hSw; (try dsimp only at hSw); go_simp; all_goals with_reducible rfl)
      try simp only [Act.put, List.setIfInBounds_toArray, List.set_cons_zero, List.set_cons_succ]
      refine wpAnyH_take (i := 9) (oi := ⟨some 59, _, _, _, _, _⟩) (v := ?_) rfl (by kernel_rfl) (by kernel_rfl) (by kernel_rfl) (fun _ _ _ h => h) (Or.inl ⟨by kernel_rfl, ?_⟩) (by assumption) ?_
      rotate_left
      · (intro w hSw; (try dsimp only at hSw); go_simp; all_goals with_reducible rfl)
      try simp only [Act.put, List.setIfInBounds_toArray, List.set_cons_zero, List.set_cons_succ]
      refine wpAnyH_take (i := 10) (oi := ⟨some 60, _, _, _, _, _⟩) (v := ?_) rfl (by kernel_rfl) (by kernel_rfl) (by kernel_rfl) (fun _ _ _ h => h) (Or.inl ⟨by kernel_rfl, ?_⟩) (by assumption) ?_
      rotate_left
      · (intro w hSw; (try dsimp only at hSw); go_simp; all_goals with_reducible rfl)
      try simp only [Act.put, List.setIfInBounds_toArray, List.set_cons_zero, List.set_cons_succ]
      refine wpAnyH_take (i := 11) (oi := ⟨some 61, _, _, _, _, _⟩) (v := ?_) rfl (by kernel_rfl) (by kernel_rfl) (by kernel_rfl) (fun _ _ _ h => h) (Or.inl ⟨by kernel_rfl, ?_⟩) (by assumption) ?_
      rotate_left
      · (intro w hSw; (try dsimp only at hSw); go_simp; all_goals with_reducible rfl)
      try simp only [Act.put, List.setIfInBounds_toArray, List.set_cons_zero, List.set_cons_succ]
      refine wpAnyH_ready (rs := [12]) (by kernel_rfl) (by simp) ?_
      refine AllReadyH.cons rfl (fun K hK => ?_) AllReadyH.nil
      go_simp
      go_wp2_with fail
      refine hK.out _ _ (HS.out _ (hB0.alloc hB0.size _)) (fun hHeld => ?_)
      clear hK K
      try simp only [Act.put, List.setIfInBounds_toArray, List.set_cons_zero, List.set_cons_succ]
      refine wpAnyH_ready (rs := [13]) (by kernel_rfl) (by simp) ?_
      refine AllReadyH.cons rfl (fun K hK => ?_) AllReadyH.nil
      rw [if_pos (by kernel_rfl)]
      have su0 := hB0.size
      have HO5 := Lib.hid (own_below HO.out (hB4.trans (hB0.mono s04)) (Nat.le_refl _))
      refine oper_append_own_at _ _ 69 rfl w1.heap.size 55 i0 (.agg #[.int .i64 0, .int .i64 0, .int .i64 0, .int .i64 0, .int .i64 0]) 5 40 Try.underlying69 HI.out HZ0.out HZ1.out HZ2.out rfl (by decide) _ _ _ rfl (HO5.out.alloc _) ⟨u0.heap.size, 0, none⟩ 1 1 [.int .i64 x1, .int .i64 x2, .int .i64 ls, .int .i64 go', .int .i64 gh'] rfl rfl ?c0 ?c1 ?c2 ?c3 ?c4 ?_
      case c0 =>
        intro j u hj
        match j, hj with
        | 0, hj => simp at hj; subst hj; simp [Addr.add, go_sem]
        | 1, hj => simp at hj; subst hj; simp [Addr.add, go_sem]
        | 2, hj => simp at hj; subst hj; simp [Addr.add, go_sem]
        | 3, hj => simp at hj; subst hj; simp [Addr.add, go_sem]
        | 4, hj => simp at hj; subst hj; simp [Addr.add, go_sem]
      case c1 => intro u hu; simp at hu; rcases hu with rfl | rfl | rfl | rfl | rfl <;> rfl
      case c2 => unfold maxLen; omega
      case c3 => omega
      case c4 => simp; omega
      intro v' w5 hown hgrow
      have ob := HO.out.lt
      obtain ⟨t0, t1, t2, t3, t4, t5⟩ := HS.out _ (hB0.alloc (o := .cells #[.int .i64 x1, .int .i64 x2, .int .i64 ls, .int .i64 go', .int .i64 gh'] 55) hB0.size)
      have ne1 : some w.heap.size ≠ u5.ownBlock := fun e => by have := ob _ e.symm; omega
      have ne2 : some wr.heap.size ≠ u5.ownBlock := fun e => by have := ob _ e.symm; omega
      have ne3 : some gb' ≠ u5.ownBlock := fun e => by have := ob _ e.symm; omega
      have r0 := hgrow.cell t0 ne1
      have r1 := hgrow.cell t1 ne2
      have r2 := hgrow.cell t2 ne2
      have r3 := hgrow.cell t3 ne2
      have r4 := hgrow.cell t4 ne3
      have r5 := hgrow.cell t5 ne3
      have hBu : Below w1.heap.size w1 u0 := hB.trans ((hB4.trans (hB0.mono s04)).mono sz)
      have hB5 : Below w1.heap.size w1 w5 := (hBu.alloc hBu.size _).grown hgrow (by have := hBu.size; simp; omega) (fun k hk => (ob k hk).1)
      have HOW : Hid (w5.ownsRow w1.heap.size 55 5 v' (k + 1) (tlc (legsV s G L (k + 1)))) := by
        show World.ownsRow _ _ _ _ _ _ _
        rw [HN.out]
        exact hown
      have hSz : w1.heap.size ≤ w5.heap.size := hB5.size
      clear hown hgrow ob t0 t1 t2 t3 t4 t5 ne1 ne2 ne3 HO HO5 HN hBu
      refine hK.out _ _ ⟨r0, r1, r2, r3, r4, r5⟩ (fun hHeld => ?_)
      clear hK K
      try simp only [Act.put, List.setIfInBounds_toArray, List.set_cons_zero, List.set_cons_succ]
      refine wpAnyH_take (i := 14) (oi := ⟨some 5, _, _, _, _, _⟩) (v := ?_) rfl (by kernel_rfl) (by kernel_rfl) (by kernel_rfl) (fun _ _ _ h => h) (Or.inl ⟨by kernel_rfl, ?_⟩) (by assumption) ?_
      rotate_left
      · (intro w hSw; (try dsimp only at hSw); go_simp; all_goals with_reducible rfl)
      try simp only [Act.put, List.setIfInBounds_toArray, List.set_cons_zero, List.set_cons_succ]
      refine wpAnyH_done (by kernel_rfl) ?_ _
      go_wp2
      go_roundw
      case rel => exact ⟨k + 1, by omega, by go_num, by rw [hds.out], hz2, HOW, hB5⟩
      case measure => (simp [intOf]) <;> omega
    · have hkl2 : ¬ (k : Int) < L.length := by omega
      have hkk : k = L.length := by omega
      have hT2 : Hid (totE s G L = 0) := by show _ = _; rw [hT.out, ← hkk]; exact hz.out
      have HO2 := HO.out
      rw [hkk] at HO2
      have hle := legsV_len s G L L.length
      obtain ⟨A', cap2, rfl, hS, _⟩ := SlTl_own (P := legsV s G L L.length) (by rw [hle]; exact HO2)
      rw [hle]
      have HS := Lib.hid hS
      clear HO HO2 hS hkk hz hle
      go_wp2
      go_ret2
      exact ⟨hBr, Or.inr ⟨hT2.out, A', cap2, rfl, HS.out⟩⟩
end Go.Proofs.Ytchfhhmmjioajaa
