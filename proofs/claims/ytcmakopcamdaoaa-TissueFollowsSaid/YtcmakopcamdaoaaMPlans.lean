import Derived.Test.YtcmakopcamdaoaaTClone
import Derived.Test.YtcmakopcamdaoaaMLimits
import Derived.Maps.AppendAt
import Derived.Laws.AppendOwnNone
import Derived.OwnWalk
import Derived.Outline
import Derived.Test.YtcmakopcamdaoaaMSmall
import Derived.LoopN
import Derived.Test.YtcmakopcamdaoaaMRefRoots
import Derived.Deep.DrawnRows
import Derived.Deep.CutRange
import Derived.Deep.CutBlock
/- Gases, legs of plans and legs as lists in memory; the copies that CopyGases and CopyLegs return. -/
namespace Go.Proofs.Ytcmakopcamdaoaa
open Go.ChangeShapes Go.WideShapes Go.ChangeAt Go.RowKit
set_option linter.unusedVariables false
set_option linter.unusedSimpArgs false

/-- A gas: oxygen, helium. -/
structure Gp where
  o : Int
  h : Int
instance : Inhabited Gp := ⟨⟨0, 0⟩⟩
def GpAt (w : World) (b off : Nat) (L : List Gp) : Prop :=
  ∀ k, (hk : k < L.length) → w.cell? ⟨b, off + k * 2, none⟩ = some (.int .i64 (L[k]).o) ∧ w.cell? ⟨b, off + k * 2 + 1, none⟩ = some (.int .i64 (L[k]).h)
theorem GpAt.below {w w' : World} {b off : Nat} {L : List Gp} (h : GpAt w b off L) {n : Nat} (hb : Below n w w') (hlt : b < n) : GpAt w' b off L := by
  intro k hk
  obtain ⟨h0, h1⟩ := h k hk
  have hc : ∀ o, w'.cell? ⟨b, o, none⟩ = w.cell? ⟨b, o, none⟩ := fun o => hb.cell (p := ⟨b, o, none⟩) hlt
  exact ⟨by rw [hc]; exact h0, by rw [hc]; exact h1⟩
def SlGp (w : World) (A : Option Addr) (L : List Gp) : Prop := L = [] ∨ ∃ b off, A = some ⟨b, off, none⟩ ∧ b < w.heap.size ∧ GpAt w b off L
theorem SlGp.below {w w' : World} {A : Option Addr} {L : List Gp} (h : SlGp w A L) (hb : Below w.heap.size w w') : SlGp w' A L := by
  rcases h with h | ⟨b, off, rfl, hlt, h⟩
  · exact Or.inl h
  · exact Or.inr ⟨b, off, rfl, Nat.lt_of_lt_of_le hlt hb.size, h.below hb hlt⟩
theorem SlGp.any {w w' : World} {A : Option Addr} {L : List Gp} {n : Nat} (h : SlGp w A L) (hb : Below n w w') (hn : w.heap.size ≤ n) : SlGp w' A L := h.below (hb.mono hn)
/-- A leg of a plan: seconds, depth, the number of its gas. -/
structure Dl where
  s : Int
  d : Int
  g : Int
instance : Inhabited Dl := ⟨⟨0, 0, 0⟩⟩
def DlAt (w : World) (b off : Nat) (L : List Dl) : Prop :=
  ∀ k, (hk : k < L.length) → w.cell? ⟨b, off + k * 3, none⟩ = some (.int .i64 (L[k]).s) ∧ w.cell? ⟨b, off + k * 3 + 1, none⟩ = some (.int .i64 (L[k]).d) ∧ w.cell? ⟨b, off + k * 3 + 2, none⟩ = some (.int .i64 (L[k]).g)
theorem DlAt.below {w w' : World} {b off : Nat} {L : List Dl} (h : DlAt w b off L) {n : Nat} (hb : Below n w w') (hlt : b < n) : DlAt w' b off L := by
  intro k hk
  obtain ⟨h0, h1, h2⟩ := h k hk
  have hc : ∀ o, w'.cell? ⟨b, o, none⟩ = w.cell? ⟨b, o, none⟩ := fun o => hb.cell (p := ⟨b, o, none⟩) hlt
  exact ⟨by rw [hc]; exact h0, by rw [hc]; exact h1, by rw [hc]; exact h2⟩
def SlDl (w : World) (A : Option Addr) (L : List Dl) : Prop := L = [] ∨ ∃ b off, A = some ⟨b, off, none⟩ ∧ b < w.heap.size ∧ DlAt w b off L
theorem SlDl.below {w w' : World} {A : Option Addr} {L : List Dl} (h : SlDl w A L) (hb : Below w.heap.size w w') : SlDl w' A L := by
  rcases h with h | ⟨b, off, rfl, hlt, h⟩
  · exact Or.inl h
  · exact Or.inr ⟨b, off, rfl, Nat.lt_of_lt_of_le hlt hb.size, h.below hb hlt⟩
theorem SlDl.any {w w' : World} {A : Option Addr} {L : List Dl} {n : Nat} (h : SlDl w A L) (hb : Below n w w') (hn : w.heap.size ≤ n) : SlDl w' A L := h.below (hb.mono hn)
/-- A leg: from, to, seconds, oxygen, helium. -/
structure Tl where
  f : Int
  t : Int
  s : Int
  o : Int
  h : Int
instance : Inhabited Tl := ⟨⟨0, 0, 0, 0, 0⟩⟩
def TlAt (w : World) (b off : Nat) (L : List Tl) : Prop :=
  ∀ k, (hk : k < L.length) → w.cell? ⟨b, off + k * 5, none⟩ = some (.int .i64 (L[k]).f) ∧ w.cell? ⟨b, off + k * 5 + 1, none⟩ = some (.int .i64 (L[k]).t) ∧ w.cell? ⟨b, off + k * 5 + 2, none⟩ = some (.int .i64 (L[k]).s) ∧ w.cell? ⟨b, off + k * 5 + 3, none⟩ = some (.int .i64 (L[k]).o) ∧ w.cell? ⟨b, off + k * 5 + 4, none⟩ = some (.int .i64 (L[k]).h)
theorem TlAt.below {w w' : World} {b off : Nat} {L : List Tl} (h : TlAt w b off L) {n : Nat} (hb : Below n w w') (hlt : b < n) : TlAt w' b off L := by
  intro k hk
  obtain ⟨h0, h1, h2, h3, h4⟩ := h k hk
  have hc : ∀ o, w'.cell? ⟨b, o, none⟩ = w.cell? ⟨b, o, none⟩ := fun o => hb.cell (p := ⟨b, o, none⟩) hlt
  exact ⟨by rw [hc]; exact h0, by rw [hc]; exact h1, by rw [hc]; exact h2, by rw [hc]; exact h3, by rw [hc]; exact h4⟩
def SlTl (w : World) (A : Option Addr) (L : List Tl) : Prop := L = [] ∨ ∃ b off, A = some ⟨b, off, none⟩ ∧ b < w.heap.size ∧ TlAt w b off L
theorem SlTl.below {w w' : World} {A : Option Addr} {L : List Tl} (h : SlTl w A L) (hb : Below w.heap.size w w') : SlTl w' A L := by
  rcases h with h | ⟨b, off, rfl, hlt, h⟩
  · exact Or.inl h
  · exact Or.inr ⟨b, off, rfl, Nat.lt_of_lt_of_le hlt hb.size, h.below hb hlt⟩
theorem SlTl.any {w w' : World} {A : Option Addr} {L : List Tl} {n : Nat} (h : SlTl w A L) (hb : Below n w w') (hn : w.heap.size ≤ n) : SlTl w' A L := h.below (hb.mono hn)
def gpc (P : List Gp) : List Value := P.flatMap fun g => [.int .i64 g.o, .int .i64 g.h]
theorem gpc_len (P : List Gp) : (gpc P).length = P.length * 2 := by
  induction P with
  | nil => rfl
  | cons g r ih =>
    show ([Value.int .i64 g.o, .int .i64 g.h] ++ gpc r).length = _
    rw [List.length_append, ih]; simp; omega
theorem gpc_at {P : List Gp} {k : Nat} (hk : k < P.length) : (gpc P)[k * 2]? = some (.int .i64 P[k].o) ∧ (gpc P)[k * 2 + 1]? = some (.int .i64 P[k].h) := by
  induction P generalizing k with
  | nil => simp at hk
  | cons g r ih =>
    have e : gpc (g :: r) = [Value.int .i64 g.o, .int .i64 g.h] ++ gpc r := rfl
    rw [e]
    cases k with
    | zero => simp
    | succ k =>
      have := ih (k := k) (by simpa using hk)
      rw [show (k + 1) * 2 = k * 2 + 2 by omega]
      obtain ⟨q0, q1⟩ := this
      refine ⟨?_, ?_⟩
      · simpa using q0
      · rw [show k * 2 + 2 + 1 = (k * 2 + 1) + 2 by omega]; simpa using q1
theorem gpc_get {P : List Gp} : ∀ {j : Nat} {u : Value}, (gpc P)[j]? = some u → ∃ k, ∃ hk : k < P.length, (j = k * 2 ∧ u = .int .i64 P[k].o) ∨ (j = k * 2 + 1 ∧ u = .int .i64 P[k].h) := by
  intro j u h
  have hj : j < (gpc P).length := (List.getElem?_eq_some_iff.1 h).1
  rw [gpc_len] at hj
  have hk : j / 2 < P.length := by omega
  refine ⟨j / 2, hk, ?_⟩
  obtain ⟨q0, q1⟩ := gpc_at hk
  have hr : j % 2 = 0 ∨ j % 2 = 1 := by omega
  rcases hr with hr | hr
  · exact Or.inl ⟨by omega, by rw [show j / 2 * 2 = j by omega, h] at q0; exact Option.some.inj q0⟩
  · exact Or.inr (⟨by omega, by rw [show j / 2 * 2 + 1 = j by omega, h] at q1; exact Option.some.inj q1⟩)
theorem gpc_cells {w : World} {c off : Nat} {P : List Gp} (h : GpAt w c off P) : ∀ j u, (gpc P)[j]? = some u → w.cell? ((⟨c, off, none⟩ : Addr).add j) = some u := by
  intro j u hj
  obtain ⟨k, hk, hh⟩ := gpc_get hj
  obtain ⟨h0, h1⟩ := h k hk
  rw [addN4]
  rcases hh with ⟨rfl, rfl⟩ | ⟨rfl, rfl⟩
  · exact h0
  · exact h1
theorem gpc_one (P : List Gp) : ∀ u ∈ gpc P, u.oneCell' = true := by
  intro u hu
  obtain ⟨g, _, hg⟩ := List.mem_flatMap.1 hu
  simp at hg
  rcases hg with rfl | rfl <;> rfl
theorem SlGp_own {w : World} {base : Nat} {e : TypeId} {v : Value} {P : List Gp} (h : w.ownsRow base e 2 v P.length (gpc P)) : ∃ A cap, v = .slice A P.length cap ∧ SlGp w A P ∧ ∀ ad, A = some ad → base ≤ ad.block := by
  rcases h.2 with ⟨rfl, h0⟩ | ⟨g, cap, cur, rfl, hb, hg, hle, hcap, hs, ht⟩
  · exact ⟨none, 0, by rw [h0], Or.inl (List.eq_nil_of_length_eq_zero h0), fun _ h => by cases h⟩
  · refine ⟨some ⟨g, 0, none⟩, cap, rfl, Or.inr ⟨g, 0, rfl, (Array.getElem?_eq_some_iff.1 hg).1, ?_⟩, fun _ h => by cases h; exact hb⟩
    intro k hk
    obtain ⟨q0, q1⟩ := gpc_at hk
    have c := World.ownsRow.cells h (g := g) rfl
    have r0 := c _ _ q0
    have r1 := c _ _ q1
    rw [addN4] at r0 r1
    exact ⟨r0, r1⟩
def dlc (P : List Dl) : List Value := P.flatMap fun g => [.int .i64 g.s, .int .i64 g.d, .int .i64 g.g]
theorem dlc_len (P : List Dl) : (dlc P).length = P.length * 3 := by
  induction P with
  | nil => rfl
  | cons g r ih =>
    show ([Value.int .i64 g.s, .int .i64 g.d, .int .i64 g.g] ++ dlc r).length = _
    rw [List.length_append, ih]; simp; omega
theorem dlc_at {P : List Dl} {k : Nat} (hk : k < P.length) : (dlc P)[k * 3]? = some (.int .i64 P[k].s) ∧ (dlc P)[k * 3 + 1]? = some (.int .i64 P[k].d) ∧ (dlc P)[k * 3 + 2]? = some (.int .i64 P[k].g) := by
  induction P generalizing k with
  | nil => simp at hk
  | cons g r ih =>
    have e : dlc (g :: r) = [Value.int .i64 g.s, .int .i64 g.d, .int .i64 g.g] ++ dlc r := rfl
    rw [e]
    cases k with
    | zero => simp
    | succ k =>
      have := ih (k := k) (by simpa using hk)
      rw [show (k + 1) * 3 = k * 3 + 3 by omega]
      obtain ⟨q0, q1, q2⟩ := this
      refine ⟨?_, ?_, ?_⟩
      · simpa using q0
      · rw [show k * 3 + 3 + 1 = (k * 3 + 1) + 3 by omega]; simpa using q1
      · rw [show k * 3 + 3 + 2 = (k * 3 + 2) + 3 by omega]; simpa using q2
theorem dlc_get {P : List Dl} : ∀ {j : Nat} {u : Value}, (dlc P)[j]? = some u → ∃ k, ∃ hk : k < P.length, (j = k * 3 ∧ u = .int .i64 P[k].s) ∨ (j = k * 3 + 1 ∧ u = .int .i64 P[k].d) ∨ (j = k * 3 + 2 ∧ u = .int .i64 P[k].g) := by
  intro j u h
  have hj : j < (dlc P).length := (List.getElem?_eq_some_iff.1 h).1
  rw [dlc_len] at hj
  have hk : j / 3 < P.length := by omega
  refine ⟨j / 3, hk, ?_⟩
  obtain ⟨q0, q1, q2⟩ := dlc_at hk
  have hr : j % 3 = 0 ∨ j % 3 = 1 ∨ j % 3 = 2 := by omega
  rcases hr with hr | hr | hr
  · exact Or.inl ⟨by omega, by rw [show j / 3 * 3 = j by omega, h] at q0; exact Option.some.inj q0⟩
  · exact Or.inr (Or.inl ⟨by omega, by rw [show j / 3 * 3 + 1 = j by omega, h] at q1; exact Option.some.inj q1⟩)
  · exact Or.inr (Or.inr (⟨by omega, by rw [show j / 3 * 3 + 2 = j by omega, h] at q2; exact Option.some.inj q2⟩))
theorem dlc_cells {w : World} {c off : Nat} {P : List Dl} (h : DlAt w c off P) : ∀ j u, (dlc P)[j]? = some u → w.cell? ((⟨c, off, none⟩ : Addr).add j) = some u := by
  intro j u hj
  obtain ⟨k, hk, hh⟩ := dlc_get hj
  obtain ⟨h0, h1, h2⟩ := h k hk
  rw [addN4]
  rcases hh with ⟨rfl, rfl⟩ | ⟨rfl, rfl⟩ | ⟨rfl, rfl⟩
  · exact h0
  · exact h1
  · exact h2
theorem dlc_one (P : List Dl) : ∀ u ∈ dlc P, u.oneCell' = true := by
  intro u hu
  obtain ⟨g, _, hg⟩ := List.mem_flatMap.1 hu
  simp at hg
  rcases hg with rfl | rfl | rfl <;> rfl
theorem SlDl_own {w : World} {base : Nat} {e : TypeId} {v : Value} {P : List Dl} (h : w.ownsRow base e 3 v P.length (dlc P)) : ∃ A cap, v = .slice A P.length cap ∧ SlDl w A P ∧ ∀ ad, A = some ad → base ≤ ad.block := by
  rcases h.2 with ⟨rfl, h0⟩ | ⟨g, cap, cur, rfl, hb, hg, hle, hcap, hs, ht⟩
  · exact ⟨none, 0, by rw [h0], Or.inl (List.eq_nil_of_length_eq_zero h0), fun _ h => by cases h⟩
  · refine ⟨some ⟨g, 0, none⟩, cap, rfl, Or.inr ⟨g, 0, rfl, (Array.getElem?_eq_some_iff.1 hg).1, ?_⟩, fun _ h => by cases h; exact hb⟩
    intro k hk
    obtain ⟨q0, q1, q2⟩ := dlc_at hk
    have c := World.ownsRow.cells h (g := g) rfl
    have r0 := c _ _ q0
    have r1 := c _ _ q1
    have r2 := c _ _ q2
    rw [addN4] at r0 r1 r2
    exact ⟨r0, r1, r2⟩
def tlc (P : List Tl) : List Value := P.flatMap fun g => [.int .i64 g.f, .int .i64 g.t, .int .i64 g.s, .int .i64 g.o, .int .i64 g.h]
theorem tlc_len (P : List Tl) : (tlc P).length = P.length * 5 := by
  induction P with
  | nil => rfl
  | cons g r ih =>
    show ([Value.int .i64 g.f, .int .i64 g.t, .int .i64 g.s, .int .i64 g.o, .int .i64 g.h] ++ tlc r).length = _
    rw [List.length_append, ih]; simp; omega
theorem tlc_at {P : List Tl} {k : Nat} (hk : k < P.length) : (tlc P)[k * 5]? = some (.int .i64 P[k].f) ∧ (tlc P)[k * 5 + 1]? = some (.int .i64 P[k].t) ∧ (tlc P)[k * 5 + 2]? = some (.int .i64 P[k].s) ∧ (tlc P)[k * 5 + 3]? = some (.int .i64 P[k].o) ∧ (tlc P)[k * 5 + 4]? = some (.int .i64 P[k].h) := by
  induction P generalizing k with
  | nil => simp at hk
  | cons g r ih =>
    have e : tlc (g :: r) = [Value.int .i64 g.f, .int .i64 g.t, .int .i64 g.s, .int .i64 g.o, .int .i64 g.h] ++ tlc r := rfl
    rw [e]
    cases k with
    | zero => simp
    | succ k =>
      have := ih (k := k) (by simpa using hk)
      rw [show (k + 1) * 5 = k * 5 + 5 by omega]
      obtain ⟨q0, q1, q2, q3, q4⟩ := this
      refine ⟨?_, ?_, ?_, ?_, ?_⟩
      · simpa using q0
      · rw [show k * 5 + 5 + 1 = (k * 5 + 1) + 5 by omega]; simpa using q1
      · rw [show k * 5 + 5 + 2 = (k * 5 + 2) + 5 by omega]; simpa using q2
      · rw [show k * 5 + 5 + 3 = (k * 5 + 3) + 5 by omega]; simpa using q3
      · rw [show k * 5 + 5 + 4 = (k * 5 + 4) + 5 by omega]; simpa using q4
theorem tlc_get {P : List Tl} : ∀ {j : Nat} {u : Value}, (tlc P)[j]? = some u → ∃ k, ∃ hk : k < P.length, (j = k * 5 ∧ u = .int .i64 P[k].f) ∨ (j = k * 5 + 1 ∧ u = .int .i64 P[k].t) ∨ (j = k * 5 + 2 ∧ u = .int .i64 P[k].s) ∨ (j = k * 5 + 3 ∧ u = .int .i64 P[k].o) ∨ (j = k * 5 + 4 ∧ u = .int .i64 P[k].h) := by
  intro j u h
  have hj : j < (tlc P).length := (List.getElem?_eq_some_iff.1 h).1
  rw [tlc_len] at hj
  have hk : j / 5 < P.length := by omega
  refine ⟨j / 5, hk, ?_⟩
  obtain ⟨q0, q1, q2, q3, q4⟩ := tlc_at hk
  have hr : j % 5 = 0 ∨ j % 5 = 1 ∨ j % 5 = 2 ∨ j % 5 = 3 ∨ j % 5 = 4 := by omega
  rcases hr with hr | hr | hr | hr | hr
  · exact Or.inl ⟨by omega, by rw [show j / 5 * 5 = j by omega, h] at q0; exact Option.some.inj q0⟩
  · exact Or.inr (Or.inl ⟨by omega, by rw [show j / 5 * 5 + 1 = j by omega, h] at q1; exact Option.some.inj q1⟩)
  · exact Or.inr (Or.inr (Or.inl ⟨by omega, by rw [show j / 5 * 5 + 2 = j by omega, h] at q2; exact Option.some.inj q2⟩))
  · exact Or.inr (Or.inr (Or.inr (Or.inl ⟨by omega, by rw [show j / 5 * 5 + 3 = j by omega, h] at q3; exact Option.some.inj q3⟩)))
  · exact Or.inr (Or.inr (Or.inr (Or.inr (⟨by omega, by rw [show j / 5 * 5 + 4 = j by omega, h] at q4; exact Option.some.inj q4⟩))))
theorem tlc_cells {w : World} {c off : Nat} {P : List Tl} (h : TlAt w c off P) : ∀ j u, (tlc P)[j]? = some u → w.cell? ((⟨c, off, none⟩ : Addr).add j) = some u := by
  intro j u hj
  obtain ⟨k, hk, hh⟩ := tlc_get hj
  obtain ⟨h0, h1, h2, h3, h4⟩ := h k hk
  rw [addN4]
  rcases hh with ⟨rfl, rfl⟩ | ⟨rfl, rfl⟩ | ⟨rfl, rfl⟩ | ⟨rfl, rfl⟩ | ⟨rfl, rfl⟩
  · exact h0
  · exact h1
  · exact h2
  · exact h3
  · exact h4
theorem tlc_one (P : List Tl) : ∀ u ∈ tlc P, u.oneCell' = true := by
  intro u hu
  obtain ⟨g, _, hg⟩ := List.mem_flatMap.1 hu
  simp at hg
  rcases hg with rfl | rfl | rfl | rfl | rfl <;> rfl
theorem SlTl_own {w : World} {base : Nat} {e : TypeId} {v : Value} {P : List Tl} (h : w.ownsRow base e 5 v P.length (tlc P)) : ∃ A cap, v = .slice A P.length cap ∧ SlTl w A P ∧ ∀ ad, A = some ad → base ≤ ad.block := by
  rcases h.2 with ⟨rfl, h0⟩ | ⟨g, cap, cur, rfl, hb, hg, hle, hcap, hs, ht⟩
  · exact ⟨none, 0, by rw [h0], Or.inl (List.eq_nil_of_length_eq_zero h0), fun _ h => by cases h⟩
  · refine ⟨some ⟨g, 0, none⟩, cap, rfl, Or.inr ⟨g, 0, rfl, (Array.getElem?_eq_some_iff.1 hg).1, ?_⟩, fun _ h => by cases h; exact hb⟩
    intro k hk
    obtain ⟨q0, q1, q2, q3, q4⟩ := tlc_at hk
    have c := World.ownsRow.cells h (g := g) rfl
    have r0 := c _ _ q0
    have r1 := c _ _ q1
    have r2 := c _ _ q2
    have r3 := c _ _ q3
    have r4 := c _ _ q4
    rw [addN4] at r0 r1 r2 r3 r4
    exact ⟨r0, r1, r2, r3, r4⟩
theorem infoGp : (Try.prog.info? 25).map (fun i => (i.zero, i.size, i.bytes)) = some (some (.agg #[.int .i64 0, .int .i64 0]), 2, 16) := by kernel_rfl
theorem infoTl : (Try.prog.info? 27).map (fun i => (i.zero, i.size, i.bytes)) = some (some (.agg #[.int .i64 0, .int .i64 0, .int .i64 0, .int .i64 0, .int .i64 0]), 5, 40) := by kernel_rfl
def CopiedG (P : List Gp) (w : World) (e : Ending) (w' : World) : Prop := ∃ A cap, e = .returned (.slice A P.length cap) ∧ SlGp w' A P ∧ (∀ ad, A = some ad → w.heap.size ≤ ad.block) ∧ Below w.heap.size w w'
def CopiedD (P : List Dl) (w : World) (e : Ending) (w' : World) : Prop := ∃ A cap, e = .returned (.slice A P.length cap) ∧ SlDl w' A P ∧ (∀ ad, A = some ad → w.heap.size ≤ ad.block) ∧ Below w.heap.size w w'
end Go.Proofs.Ytcmakopcamdaoaa

/- What gas.PressureAt, gas.Partial and their specifications return. -/
namespace Go.Proofs.Ytcmakopcamdaoaa
open Go.ChangeShapes Go.WideShapes Go.ChangeAt Go.RowKit
set_option linter.unusedVariables false

def plE (s d : Int) : Int := firE [rngE s 400 1100, rngE d 0 30000]
def plP (s d : Int) : Int := if plE s d = 0 then s + d else 0
def paE (o h p : Int) : Int := firE [gasE o h, rngE p 0 100000]
def paV (o h p x : Int) : Int := if paE o h p = 0 then x * p else 0
end Go.Proofs.Ytcmakopcamdaoaa

/- What tissue.checkPlan, tissue.checkDiveLeg and the specification's checks of a plan return. -/
namespace Go.Proofs.Ytcmakopcamdaoaa
open Go.ChangeShapes Go.WideShapes Go.ChangeAt Go.RowKit
set_option linter.unusedVariables false
set_option linter.unusedSimpArgs false
def gpE (x : Gp) : Int := gasE x.o x.h
/-- The error of a plan but for those of its legs. -/
def plnE (s : Int) (G : List Gp) (n : Nat) : Int := if inB s 400 1100 = true then (if 8 < G.length then 8 else if fstE gpE G = 0 then (if 60 < n then 8 else 0) else fstE gpE G) else 2
/-- The error of a leg of a plan. -/
def dlE (s d g dep ng : Int) : Int := if inB s 0 100000 = true ∧ inB d 0 30000 = true then (if inB g 0 (ng - 1) = true then (if s = 0 ∧ d ≠ dep then 11 else 0) else 6) else 2
theorem plnE_s {s : Int} {G : List Gp} {n : Nat} (h : inB s 400 1100 = false) : plnE s G n = 2 := by unfold plnE; rw [if_neg (by rw [h]; exact Bool.false_ne_true)]
theorem plnE_l {s : Int} {G : List Gp} {n : Nat} (h : inB s 400 1100 = true) (h8 : 8 < G.length) : plnE s G n = 8 := by unfold plnE; rw [if_pos h, if_pos h8]
theorem plnE_g {s : Int} {G : List Gp} {n : Nat} (h : inB s 400 1100 = true) (h8 : ¬ 8 < G.length) (hg : fstE gpE G ≠ 0) : plnE s G n = fstE gpE G := by unfold plnE; rw [if_pos h, if_neg h8, if_neg hg]
theorem plnE_m {s : Int} {G : List Gp} {n : Nat} (h : inB s 400 1100 = true) (h8 : ¬ 8 < G.length) (hg : fstE gpE G = 0) (h6 : 60 < n) : plnE s G n = 8 := by unfold plnE; rw [if_pos h, if_neg h8, if_pos hg, if_pos h6]
theorem plnE_0 {s : Int} {G : List Gp} {n : Nat} (h : inB s 400 1100 = true) (h8 : ¬ 8 < G.length) (hg : fstE gpE G = 0) (h6 : ¬ 60 < n) : plnE s G n = 0 := by unfold plnE; rw [if_pos h, if_neg h8, if_pos hg, if_neg h6]
theorem plnE_ok {s : Int} {G : List Gp} {n : Nat} (h : plnE s G n = 0) : inB s 400 1100 = true ∧ G.length ≤ 8 ∧ n ≤ 60 ∧ fstE gpE G = 0 := by
  unfold plnE at h
  split at h
  · rename_i h1
    split at h
    · omega
    · split at h
      · rename_i h3
        split at h
        · omega
        · exact ⟨h1, by omega, by omega, h3⟩
      · rename_i h3; exact absurd h h3
  · omega
theorem dlE_ok {s d g dep ng : Int} (h : dlE s d g dep ng = 0) : (0 ≤ s ∧ s ≤ 100000) ∧ (0 ≤ d ∧ d ≤ 30000) ∧ (0 ≤ g ∧ g ≤ ng - 1) ∧ ¬ (s = 0 ∧ d ≠ dep) := by
  unfold dlE at h
  split at h
  · rename_i h1
    rw [inB_iff, inB_iff] at h1
    split at h
    · rename_i h2
      rw [inB_iff] at h2
      split at h
      · omega
      · rename_i h3; exact ⟨h1.1, h1.2, h2, h3⟩
    · omega
  · omega
theorem refIsSurface_any (n : Int) (w : World) :
    Calls Try.prog 26 #[.int .i64 n] w fun e w' => e = .returned (.bool (inB n 400 1100)) ∧ w = w' := by
  go_enter Try.func26, Try.ntmps26
  go_wp2_with ((go_at_call 27; ((with_reducible refine (baseWithin_any _ _ _ _).mono ?_)); rintro e w' ⟨rfl, rfl⟩))
  go_ret
  exact ⟨rfl, rfl⟩
end Go.Proofs.Ytcmakopcamdaoaa

/- What tissue.LegsOf returns. -/
namespace Go.Proofs.Ytcmakopcamdaoaa
open Go.ChangeShapes Go.WideShapes Go.ChangeAt Go.RowKit
set_option linter.unusedVariables false
set_option linter.unusedSimpArgs false
attribute [local go_sem ↓] Go.wp_at_zero Go.wp_at_succ
theorem oper_append_own_at {P : Program} {w : World} {o : Oper} {a : Act} {K : Act → World → Prop} {Q : Exit → Act → World → Prop} (s x : Operand) (t : TypeId)
    (ho : o.op = .call { callee := .builtin .append, args := #[s, x], argTypes := #[t, t] })
    (base : Nat) (e : TypeId) (i : TypeInfo) (z : Value) (size bytes : Nat) (ht : P.underlying t = some (.slice e)) (hi : P.info? e = some i) (hz : i.zero = some z)
    (hsize : i.size = size) (hby : i.bytes = bytes) (hzs : z.cells.size = size) (hsz : 0 < size)
    (v : Value) (n : Nat) (xs : List Value) (hs : a.eval s = v) (hown : w.ownsRow base e size v n xs)
    (ad : Addr) (m c : Nat) (news : List Value) (hx : a.eval x = .slice (some ad) m c) (hl : news.length = m * size) (hnews : ∀ j u, news[j]? = some u → w.cell? (ad.add j) = some u) (h1 : ∀ u ∈ news, u.oneCell' = true)
    (h63 : n + m ≤ maxLen) (hbytes : (n + m) * bytes ≤ 140737488355328) (hbase : base ≤ w.heap.size)
    (h : ∀ v' w', w'.ownsRow base e size v' (n + m) (xs ++ news) → w.grownBy w' v.ownBlock → K (a.put o.dst v') w') : o.wp P a w K Q := by
  obtain ⟨v', w', hr, h2, h3, _, _⟩ := run_append_own_at (P := P) w base t o.type e i z size bytes ht hi hz hsize hby hzs hsz v n xs hown ad m c news hl hnews h1 h63 hbytes hbase
  unfold Oper.wp execOp
  simp only [ho, resolve, invoke, builtin, Sem.run_bind, Sem.run_pure, Result.andThen_ok, List.map_toArray, List.map_cons, List.map_nil, hs, hx, hr]
  exact h v' w' h2 h3
/-- The depth at which the k-th leg begins; its error; the leg. -/
def depAt (L : List Dl) (k : Nat) : Int := if k = 0 then 0 else (L.getD (k - 1) default).d
def errAt (L : List Dl) (ng : Nat) (k : Nat) : Int := dlE (L.getD k default).s (L.getD k default).d (L.getD k default).g (depAt L k) ng
def legAt (s : Int) (G : List Gp) (L : List Dl) (k : Nat) : Tl := ⟨s + depAt L k, s + (L.getD k default).d, (L.getD k default).s, (G.getD (L.getD k default).g.toNat default).o, (G.getD (L.getD k default).g.toNat default).h⟩
/-- The first error among the first n. -/
def fstN (f : Nat → Int) : Nat → Int
  | 0 => 0
  | k + 1 => if fstN f k = 0 then f k else fstN f k
theorem fstN_s {f : Nat → Int} {k : Nat} (hz : fstN f k = 0) (h0 : f k = 0) : fstN f (k + 1) = 0 := by
  unfold fstN; rw [if_pos hz]; exact h0
theorem fstN_at {f : Nat → Int} {k n : Nat} (hk : k < n) (hz : fstN f k = 0) (hn : f k ≠ 0) : fstN f n = f k := by
  induction n with
  | zero => omega
  | succ n ih =>
    unfold fstN
    by_cases e : k = n
    · subst e; rw [if_pos hz]
    · have := ih (by omega)
      rw [this, if_neg hn]
theorem fstN_all {f : Nat → Int} {n : Nat} (h : fstN f n = 0) : ∀ k, k < n → f k = 0 := by
  induction n with
  | zero => intro k hk; omega
  | succ n ih =>
    unfold fstN at h
    by_cases e : fstN f n = 0
    · rw [if_pos e] at h
      intro k hk
      by_cases e2 : k = n
      · subst e2; exact h
      · exact ih e k (by omega)
    · rw [if_neg e] at h; exact absurd h e
def totE (s : Int) (G : List Gp) (L : List Dl) : Int := if plnE s G L.length = 0 then fstN (errAt L G.length) L.length else plnE s G L.length
def legsV (s : Int) (G : List Gp) (L : List Dl) (n : Nat) : List Tl := (List.range n).map (legAt s G L)
theorem legsV_len (s : Int) (G : List Gp) (L : List Dl) (n : Nat) : (legsV s G L n).length = n := by simp [legsV]
theorem legsV_at {s : Int} {G : List Gp} {L : List Dl} {n k : Nat} (hk : k < (legsV s G L n).length) : (legsV s G L n)[k] = legAt s G L k := by simp [legsV]
theorem tlc_s (s : Int) (G : List Gp) (L : List Dl) (k : Nat) : tlc (legsV s G L (k + 1)) = tlc (legsV s G L k) ++ [.int .i64 (legAt s G L k).f, .int .i64 (legAt s G L k).t, .int .i64 (legAt s G L k).s, .int .i64 (legAt s G L k).o, .int .i64 (legAt s G L k).h] := by
  unfold legsV
  rw [List.range_succ, List.map_append]
  unfold tlc
  rw [List.flatMap_append]
  rfl
theorem getD_is {α : Type} [Inhabited α] {P : List α} {k : Nat} (hk : k < P.length) : P.getD k default = P[k] := by simp [List.getD, hk]
theorem depAt_s {L : List Dl} {k : Nat} (hk : k < L.length) : depAt L (k + 1) = L[k].d := by
  unfold depAt
  rw [if_neg (by omega), Nat.add_sub_cancel, getD_is hk]
theorem depAt_bd {L : List Dl} {ng k : Nat} (hk : k ≤ L.length) (h : fstN (errAt L ng) k = 0) : 0 ≤ depAt L k ∧ depAt L k ≤ 30000 := by
  cases k with
  | zero => unfold depAt; simp
  | succ k =>
    have := fstN_all h k (by omega)
    unfold errAt at this
    have hb := (dlE_ok this).2.1
    unfold depAt
    rw [if_neg (by omega), Nat.add_sub_cancel]
    exact hb
/-- LegsOf returned the legs of a plan, or its error. -/
def LegsPost (s : Int) (G : List Gp) (L : List Dl) (w : World) (e : Ending) (w' : World) : Prop := Below w.heap.size w w' ∧ ((totE s G L ≠ 0 ∧ e = .returned (.tuple #[.slice none 0 0, .int .i64 (totE s G L)])) ∨ (totE s G L = 0 ∧ ∃ A cap, e = .returned (.tuple #[.slice A L.length cap, .int .i64 0]) ∧ SlTl w' A (legsV s G L L.length)))
end Go.Proofs.Ytcmakopcamdaoaa
