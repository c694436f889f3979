/- Gases, legs of plans and legs as lists in memory; the copies that CopyGases and CopyLegs return. -/
import Derived.Test.YtbdiljbjddppcaaTClone
import Derived.Test.YtbdiljbjddppcaaTLimit
import Derived.Maps.AppendAt
import Derived.Laws.AppendOwnNone
import Derived.OwnWalk
import Derived.Outline
namespace Go.Proofs.Ytbdiljbjddppcaa
open Go.ChangeShapes Go.WideShapes Go.ChangeAt Go.RowKit
set_option linter.unusedVariables false
set_option linter.unusedSimpArgs false

/-- A gas: oxygen, helium. -/
structure Gp where
  o : Int
  h : Int
instance : Inhabited Gp := ⟨⟨0, 0⟩⟩
def GpAt (w : World) (b off : Nat) (L : List Gp) : Prop :=
  ∀ k, (hk : k < L.length) → w.cell? ⟨b, off + k * 2, none⟩ = some (.int .i64 (L[k]).o) ∧ w.cell? ⟨b, off + k * 2 + 1, none⟩ = some (.int .i64 (L[k]).h)
theorem GpAt.below {w w' : World} {b off : Nat} {L : List Gp} (h : GpAt w b off L) {n : Nat} (hb : Below n w w') (hlt : b < n) : GpAt w' b off L := by
  intro k hk
  obtain ⟨h0, h1⟩ := h k hk
  have hc : ∀ o, w'.cell? ⟨b, o, none⟩ = w.cell? ⟨b, o, none⟩ := fun o => hb.cell (p := ⟨b, o, none⟩) hlt
  exact ⟨by rw [hc]; exact h0, by rw [hc]; exact h1⟩
def SlGp (w : World) (A : Option Addr) (L : List Gp) : Prop := L = [] ∨ ∃ b off, A = some ⟨b, off, none⟩ ∧ b < w.heap.size ∧ GpAt w b off L
theorem SlGp.below {w w' : World} {A : Option Addr} {L : List Gp} (h : SlGp w A L) (hb : Below w.heap.size w w') : SlGp w' A L := by
  rcases h with h | ⟨b, off, rfl, hlt, h⟩
  · exact Or.inl h
  · exact Or.inr ⟨b, off, rfl, Nat.lt_of_lt_of_le hlt hb.size, h.below hb hlt⟩
theorem SlGp.any {w w' : World} {A : Option Addr} {L : List Gp} {n : Nat} (h : SlGp w A L) (hb : Below n w w') (hn : w.heap.size ≤ n) : SlGp w' A L := h.below (hb.mono hn)
/-- A leg of a plan: seconds, depth, the number of its gas. -/
structure Dl where
  s : Int
  d : Int
  g : Int
instance : Inhabited Dl := ⟨⟨0, 0, 0⟩⟩
def DlAt (w : World) (b off : Nat) (L : List Dl) : Prop :=
  ∀ k, (hk : k < L.length) → w.cell? ⟨b, off + k * 3, none⟩ = some (.int .i64 (L[k]).s) ∧ w.cell? ⟨b, off + k * 3 + 1, none⟩ = some (.int .i64 (L[k]).d) ∧ w.cell? ⟨b, off + k * 3 + 2, none⟩ = some (.int .i64 (L[k]).g)
theorem DlAt.below {w w' : World} {b off : Nat} {L : List Dl} (h : DlAt w b off L) {n : Nat} (hb : Below n w w') (hlt : b < n) : DlAt w' b off L := by
  intro k hk
  obtain ⟨h0, h1, h2⟩ := h k hk
  have hc : ∀ o, w'.cell? ⟨b, o, none⟩ = w.cell? ⟨b, o, none⟩ := fun o => hb.cell (p := ⟨b, o, none⟩) hlt
  exact ⟨by rw [hc]; exact h0, by rw [hc]; exact h1, by rw [hc]; exact h2⟩
def SlDl (w : World) (A : Option Addr) (L : List Dl) : Prop := L = [] ∨ ∃ b off, A = some ⟨b, off, none⟩ ∧ b < w.heap.size ∧ DlAt w b off L
theorem SlDl.below {w w' : World} {A : Option Addr} {L : List Dl} (h : SlDl w A L) (hb : Below w.heap.size w w') : SlDl w' A L := by
  rcases h with h | ⟨b, off, rfl, hlt, h⟩
  · exact Or.inl h
  · exact Or.inr ⟨b, off, rfl, Nat.lt_of_lt_of_le hlt hb.size, h.below hb hlt⟩
theorem SlDl.any {w w' : World} {A : Option Addr} {L : List Dl} {n : Nat} (h : SlDl w A L) (hb : Below n w w') (hn : w.heap.size ≤ n) : SlDl w' A L := h.below (hb.mono hn)
/-- A leg: from, to, seconds, oxygen, helium. -/
structure Tl where
  f : Int
  t : Int
  s : Int
  o : Int
  h : Int
instance : Inhabited Tl := ⟨⟨0, 0, 0, 0, 0⟩⟩
def TlAt (w : World) (b off : Nat) (L : List Tl) : Prop :=
  ∀ k, (hk : k < L.length) → w.cell? ⟨b, off + k * 5, none⟩ = some (.int .i64 (L[k]).f) ∧ w.cell? ⟨b, off + k * 5 + 1, none⟩ = some (.int .i64 (L[k]).t) ∧ w.cell? ⟨b, off + k * 5 + 2, none⟩ = some (.int .i64 (L[k]).s) ∧ w.cell? ⟨b, off + k * 5 + 3, none⟩ = some (.int .i64 (L[k]).o) ∧ w.cell? ⟨b, off + k * 5 + 4, none⟩ = some (.int .i64 (L[k]).h)
theorem TlAt.below {w w' : World} {b off : Nat} {L : List Tl} (h : TlAt w b off L) {n : Nat} (hb : Below n w w') (hlt : b < n) : TlAt w' b off L := by
  intro k hk
  obtain ⟨h0, h1, h2, h3, h4⟩ := h k hk
  have hc : ∀ o, w'.cell? ⟨b, o, none⟩ = w.cell? ⟨b, o, none⟩ := fun o => hb.cell (p := ⟨b, o, none⟩) hlt
  exact ⟨by rw [hc]; exact h0, by rw [hc]; exact h1, by rw [hc]; exact h2, by rw [hc]; exact h3, by rw [hc]; exact h4⟩
def SlTl (w : World) (A : Option Addr) (L : List Tl) : Prop := L = [] ∨ ∃ b off, A = some ⟨b, off, none⟩ ∧ b < w.heap.size ∧ TlAt w b off L
theorem SlTl.below {w w' : World} {A : Option Addr} {L : List Tl} (h : SlTl w A L) (hb : Below w.heap.size w w') : SlTl w' A L := by
  rcases h with h | ⟨b, off, rfl, hlt, h⟩
  · exact Or.inl h
  · exact Or.inr ⟨b, off, rfl, Nat.lt_of_lt_of_le hlt hb.size, h.below hb hlt⟩
theorem SlTl.any {w w' : World} {A : Option Addr} {L : List Tl} {n : Nat} (h : SlTl w A L) (hb : Below n w w') (hn : w.heap.size ≤ n) : SlTl w' A L := h.below (hb.mono hn)
def gpc (P : List Gp) : List Value := P.flatMap fun g => [.int .i64 g.o, .int .i64 g.h]
theorem gpc_len (P : List Gp) : (gpc P).length = P.length * 2 := by
  induction P with
  | nil => rfl
  | cons g r ih =>
    show ([Value.int .i64 g.o, .int .i64 g.h] ++ gpc r).length = _
    rw [List.length_append, ih]; simp; omega
theorem gpc_at {P : List Gp} {k : Nat} (hk : k < P.length) : (gpc P)[k * 2]? = some (.int .i64 P[k].o) ∧ (gpc P)[k * 2 + 1]? = some (.int .i64 P[k].h) := by
  induction P generalizing k with
  | nil => simp at hk
  | cons g r ih =>
    have e : gpc (g :: r) = [Value.int .i64 g.o, .int .i64 g.h] ++ gpc r := rfl
    rw [e]
    cases k with
    | zero => simp
    | succ k =>
      have := ih (k := k) (by simpa using hk)
      rw [show (k + 1) * 2 = k * 2 + 2 by omega]
      obtain ⟨q0, q1⟩ := this
      refine ⟨?_, ?_⟩
      · simpa using q0
      · rw [show k * 2 + 2 + 1 = (k * 2 + 1) + 2 by omega]; simpa using q1
theorem gpc_get {P : List Gp} : ∀ {j : Nat} {u : Value}, (gpc P)[j]? = some u → ∃ k, ∃ hk : k < P.length, (j = k * 2 ∧ u = .int .i64 P[k].o) ∨ (j = k * 2 + 1 ∧ u = .int .i64 P[k].h) := by
  intro j u h
  have hj : j < (gpc P).length := (List.getElem?_eq_some_iff.1 h).1
  rw [gpc_len] at hj
  have hk : j / 2 < P.length := by omega
  refine ⟨j / 2, hk, ?_⟩
  obtain ⟨q0, q1⟩ := gpc_at hk
  have hr : j % 2 = 0 ∨ j % 2 = 1 := by omega
  rcases hr with hr | hr
  · exact Or.inl ⟨by omega, by rw [show j / 2 * 2 = j by omega, h] at q0; exact Option.some.inj q0⟩
  · exact Or.inr (⟨by omega, by rw [show j / 2 * 2 + 1 = j by omega, h] at q1; exact Option.some.inj q1⟩)
theorem gpc_cells {w : World} {c off : Nat} {P : List Gp} (h : GpAt w c off P) : ∀ j u, (gpc P)[j]? = some u → w.cell? ((⟨c, off, none⟩ : Addr).add j) = some u := by
  intro j u hj
  obtain ⟨k, hk, hh⟩ := gpc_get hj
  obtain ⟨h0, h1⟩ := h k hk
  rw [addN4]
  rcases hh with ⟨rfl, rfl⟩ | ⟨rfl, rfl⟩
  · exact h0
  · exact h1
theorem gpc_one (P : List Gp) : ∀ u ∈ gpc P, u.oneCell' = true := by
  intro u hu
  obtain ⟨g, _, hg⟩ := List.mem_flatMap.1 hu
  simp at hg
  rcases hg with rfl | rfl <;> rfl
theorem SlGp_own {w : World} {base : Nat} {e : TypeId} {v : Value} {P : List Gp} (h : w.ownsRow base e 2 v P.length (gpc P)) : ∃ A cap, v = .slice A P.length cap ∧ SlGp w A P ∧ ∀ ad, A = some ad → base ≤ ad.block := by
  rcases h.2 with ⟨rfl, h0⟩ | ⟨g, cap, cur, rfl, hb, hg, hle, hcap, hs, ht⟩
  · exact ⟨none, 0, by rw [h0], Or.inl (List.eq_nil_of_length_eq_zero h0), fun _ h => by cases h⟩
  · refine ⟨some ⟨g, 0, none⟩, cap, rfl, Or.inr ⟨g, 0, rfl, (Array.getElem?_eq_some_iff.1 hg).1, ?_⟩, fun _ h => by cases h; exact hb⟩
    intro k hk
    obtain ⟨q0, q1⟩ := gpc_at hk
    have c := World.ownsRow.cells h (g := g) rfl
    have r0 := c _ _ q0
    have r1 := c _ _ q1
    rw [addN4] at r0 r1
    exact ⟨r0, r1⟩
def dlc (P : List Dl) : List Value := P.flatMap fun g => [.int .i64 g.s, .int .i64 g.d, .int .i64 g.g]
theorem dlc_len (P : List Dl) : (dlc P).length = P.length * 3 := by
  induction P with
  | nil => rfl
  | cons g r ih =>
    show ([Value.int .i64 g.s, .int .i64 g.d, .int .i64 g.g] ++ dlc r).length = _
    rw [List.length_append, ih]; simp; omega
theorem dlc_at {P : List Dl} {k : Nat} (hk : k < P.length) : (dlc P)[k * 3]? = some (.int .i64 P[k].s) ∧ (dlc P)[k * 3 + 1]? = some (.int .i64 P[k].d) ∧ (dlc P)[k * 3 + 2]? = some (.int .i64 P[k].g) := by
  induction P generalizing k with
  | nil => simp at hk
  | cons g r ih =>
    have e : dlc (g :: r) = [Value.int .i64 g.s, .int .i64 g.d, .int .i64 g.g] ++ dlc r := rfl
    rw [e]
    cases k with
    | zero => simp
    | succ k =>
      have := ih (k := k) (by simpa using hk)
      rw [show (k + 1) * 3 = k * 3 + 3 by omega]
      obtain ⟨q0, q1, q2⟩ := this
      refine ⟨?_, ?_, ?_⟩
      · simpa using q0
      · rw [show k * 3 + 3 + 1 = (k * 3 + 1) + 3 by omega]; simpa using q1
      · rw [show k * 3 + 3 + 2 = (k * 3 + 2) + 3 by omega]; simpa using q2
theorem dlc_get {P : List Dl} : ∀ {j : Nat} {u : Value}, (dlc P)[j]? = some u → ∃ k, ∃ hk : k < P.length, (j = k * 3 ∧ u = .int .i64 P[k].s) ∨ (j = k * 3 + 1 ∧ u = .int .i64 P[k].d) ∨ (j = k * 3 + 2 ∧ u = .int .i64 P[k].g) := by
  intro j u h
  have hj : j < (dlc P).length := (List.getElem?_eq_some_iff.1 h).1
  rw [dlc_len] at hj
  have hk : j / 3 < P.length := by omega
  refine ⟨j / 3, hk, ?_⟩
  obtain ⟨q0, q1, q2⟩ := dlc_at hk
  have hr : j % 3 = 0 ∨ j % 3 = 1 ∨ j % 3 = 2 := by omega
  rcases hr with hr | hr | hr
  · exact Or.inl ⟨by omega, by rw [show j / 3 * 3 = j by omega, h] at q0; exact Option.some.inj q0⟩
  · exact Or.inr (Or.inl ⟨by omega, by rw [show j / 3 * 3 + 1 = j by omega, h] at q1; exact Option.some.inj q1⟩)
  · exact Or.inr (Or.inr (⟨by omega, by rw [show j / 3 * 3 + 2 = j by omega, h] at q2; exact Option.some.inj q2⟩))
theorem dlc_cells {w : World} {c off : Nat} {P : List Dl} (h : DlAt w c off P) : ∀ j u, (dlc P)[j]? = some u → w.cell? ((⟨c, off, none⟩ : Addr).add j) = some u := by
  intro j u hj
  obtain ⟨k, hk, hh⟩ := dlc_get hj
  obtain ⟨h0, h1, h2⟩ := h k hk
  rw [addN4]
  rcases hh with ⟨rfl, rfl⟩ | ⟨rfl, rfl⟩ | ⟨rfl, rfl⟩
  · exact h0
  · exact h1
  · exact h2
theorem dlc_one (P : List Dl) : ∀ u ∈ dlc P, u.oneCell' = true := by
  intro u hu
  obtain ⟨g, _, hg⟩ := List.mem_flatMap.1 hu
  simp at hg
  rcases hg with rfl | rfl | rfl <;> rfl
theorem SlDl_own {w : World} {base : Nat} {e : TypeId} {v : Value} {P : List Dl} (h : w.ownsRow base e 3 v P.length (dlc P)) : ∃ A cap, v = .slice A P.length cap ∧ SlDl w A P ∧ ∀ ad, A = some ad → base ≤ ad.block := by
  rcases h.2 with ⟨rfl, h0⟩ | ⟨g, cap, cur, rfl, hb, hg, hle, hcap, hs, ht⟩
  · exact ⟨none, 0, by rw [h0], Or.inl (List.eq_nil_of_length_eq_zero h0), fun _ h => by cases h⟩
  · refine ⟨some ⟨g, 0, none⟩, cap, rfl, Or.inr ⟨g, 0, rfl, (Array.getElem?_eq_some_iff.1 hg).1, ?_⟩, fun _ h => by cases h; exact hb⟩
    intro k hk
    obtain ⟨q0, q1, q2⟩ := dlc_at hk
    have c := World.ownsRow.cells h (g := g) rfl
    have r0 := c _ _ q0
    have r1 := c _ _ q1
    have r2 := c _ _ q2
    rw [addN4] at r0 r1 r2
    exact ⟨r0, r1, r2⟩
def tlc (P : List Tl) : List Value := P.flatMap fun g => [.int .i64 g.f, .int .i64 g.t, .int .i64 g.s, .int .i64 g.o, .int .i64 g.h]
theorem tlc_len (P : List Tl) : (tlc P).length = P.length * 5 := by
  induction P with
  | nil => rfl
  | cons g r ih =>
    show ([Value.int .i64 g.f, .int .i64 g.t, .int .i64 g.s, .int .i64 g.o, .int .i64 g.h] ++ tlc r).length = _
    rw [List.length_append, ih]; simp; omega
theorem tlc_at {P : List Tl} {k : Nat} (hk : k < P.length) : (tlc P)[k * 5]? = some (.int .i64 P[k].f) ∧ (tlc P)[k * 5 + 1]? = some (.int .i64 P[k].t) ∧ (tlc P)[k * 5 + 2]? = some (.int .i64 P[k].s) ∧ (tlc P)[k * 5 + 3]? = some (.int .i64 P[k].o) ∧ (tlc P)[k * 5 + 4]? = some (.int .i64 P[k].h) := by
  induction P generalizing k with
  | nil => simp at hk
  | cons g r ih =>
    have e : tlc (g :: r) = [Value.int .i64 g.f, .int .i64 g.t, .int .i64 g.s, .int .i64 g.o, .int .i64 g.h] ++ tlc r := rfl
    rw [e]
    cases k with
    | zero => simp
    | succ k =>
      have := ih (k := k) (by simpa using hk)
      rw [show (k + 1) * 5 = k * 5 + 5 by omega]
      obtain ⟨q0, q1, q2, q3, q4⟩ := this
      refine ⟨?_, ?_, ?_, ?_, ?_⟩
      · simpa using q0
      · rw [show k * 5 + 5 + 1 = (k * 5 + 1) + 5 by omega]; simpa using q1
      · rw [show k * 5 + 5 + 2 = (k * 5 + 2) + 5 by omega]; simpa using q2
      · rw [show k * 5 + 5 + 3 = (k * 5 + 3) + 5 by omega]; simpa using q3
      · rw [show k * 5 + 5 + 4 = (k * 5 + 4) + 5 by omega]; simpa using q4
theorem tlc_get {P : List Tl} : ∀ {j : Nat} {u : Value}, (tlc P)[j]? = some u → ∃ k, ∃ hk : k < P.length, (j = k * 5 ∧ u = .int .i64 P[k].f) ∨ (j = k * 5 + 1 ∧ u = .int .i64 P[k].t) ∨ (j = k * 5 + 2 ∧ u = .int .i64 P[k].s) ∨ (j = k * 5 + 3 ∧ u = .int .i64 P[k].o) ∨ (j = k * 5 + 4 ∧ u = .int .i64 P[k].h) := by
  intro j u h
  have hj : j < (tlc P).length := (List.getElem?_eq_some_iff.1 h).1
  rw [tlc_len] at hj
  have hk : j / 5 < P.length := by omega
  refine ⟨j / 5, hk, ?_⟩
  obtain ⟨q0, q1, q2, q3, q4⟩ := tlc_at hk
  have hr : j % 5 = 0 ∨ j % 5 = 1 ∨ j % 5 = 2 ∨ j % 5 = 3 ∨ j % 5 = 4 := by omega
  rcases hr with hr | hr | hr | hr | hr
  · exact Or.inl ⟨by omega, by rw [show j / 5 * 5 = j by omega, h] at q0; exact Option.some.inj q0⟩
  · exact Or.inr (Or.inl ⟨by omega, by rw [show j / 5 * 5 + 1 = j by omega, h] at q1; exact Option.some.inj q1⟩)
  · exact Or.inr (Or.inr (Or.inl ⟨by omega, by rw [show j / 5 * 5 + 2 = j by omega, h] at q2; exact Option.some.inj q2⟩))
  · exact Or.inr (Or.inr (Or.inr (Or.inl ⟨by omega, by rw [show j / 5 * 5 + 3 = j by omega, h] at q3; exact Option.some.inj q3⟩)))
  · exact Or.inr (Or.inr (Or.inr (Or.inr (⟨by omega, by rw [show j / 5 * 5 + 4 = j by omega, h] at q4; exact Option.some.inj q4⟩))))
theorem tlc_cells {w : World} {c off : Nat} {P : List Tl} (h : TlAt w c off P) : ∀ j u, (tlc P)[j]? = some u → w.cell? ((⟨c, off, none⟩ : Addr).add j) = some u := by
  intro j u hj
  obtain ⟨k, hk, hh⟩ := tlc_get hj
  obtain ⟨h0, h1, h2, h3, h4⟩ := h k hk
  rw [addN4]
  rcases hh with ⟨rfl, rfl⟩ | ⟨rfl, rfl⟩ | ⟨rfl, rfl⟩ | ⟨rfl, rfl⟩ | ⟨rfl, rfl⟩
  · exact h0
  · exact h1
  · exact h2
  · exact h3
  · exact h4
theorem tlc_one (P : List Tl) : ∀ u ∈ tlc P, u.oneCell' = true := by
  intro u hu
  obtain ⟨g, _, hg⟩ := List.mem_flatMap.1 hu
  simp at hg
  rcases hg with rfl | rfl | rfl | rfl | rfl <;> rfl
theorem SlTl_own {w : World} {base : Nat} {e : TypeId} {v : Value} {P : List Tl} (h : w.ownsRow base e 5 v P.length (tlc P)) : ∃ A cap, v = .slice A P.length cap ∧ SlTl w A P ∧ ∀ ad, A = some ad → base ≤ ad.block := by
  rcases h.2 with ⟨rfl, h0⟩ | ⟨g, cap, cur, rfl, hb, hg, hle, hcap, hs, ht⟩
  · exact ⟨none, 0, by rw [h0], Or.inl (List.eq_nil_of_length_eq_zero h0), fun _ h => by cases h⟩
  · refine ⟨some ⟨g, 0, none⟩, cap, rfl, Or.inr ⟨g, 0, rfl, (Array.getElem?_eq_some_iff.1 hg).1, ?_⟩, fun _ h => by cases h; exact hb⟩
    intro k hk
    obtain ⟨q0, q1, q2, q3, q4⟩ := tlc_at hk
    have c := World.ownsRow.cells h (g := g) rfl
    have r0 := c _ _ q0
    have r1 := c _ _ q1
    have r2 := c _ _ q2
    have r3 := c _ _ q3
    have r4 := c _ _ q4
    rw [addN4] at r0 r1 r2 r3 r4
    exact ⟨r0, r1, r2, r3, r4⟩
theorem infoGp : (Try.prog.info? 25).map (fun i => (i.zero, i.size, i.bytes)) = some (some (.agg #[.int .i64 0, .int .i64 0]), 2, 16) := by kernel_rfl
theorem infoDl : (Try.prog.info? 112).map (fun i => (i.zero, i.size, i.bytes)) = some (some (.agg #[.int .i64 0, .int .i64 0, .int .i64 0]), 3, 24) := by kernel_rfl
theorem infoTl : (Try.prog.info? 52).map (fun i => (i.zero, i.size, i.bytes)) = some (some (.agg #[.int .i64 0, .int .i64 0, .int .i64 0, .int .i64 0, .int .i64 0]), 5, 40) := by kernel_rfl
def CopiedG (P : List Gp) (w : World) (e : Ending) (w' : World) : Prop := ∃ A cap, e = .returned (.slice A P.length cap) ∧ SlGp w' A P ∧ (∀ ad, A = some ad → w.heap.size ≤ ad.block) ∧ Below w.heap.size w w'
def CopiedD (P : List Dl) (w : World) (e : Ending) (w' : World) : Prop := ∃ A cap, e = .returned (.slice A P.length cap) ∧ SlDl w' A P ∧ (∀ ad, A = some ad → w.heap.size ≤ ad.block) ∧ Below w.heap.size w w'
theorem copyGp_some (P : List Gp) (ad : Addr) (cap : Nat) (w : World) (hl : P.length ≤ 1000000) (hP : ∀ j u, (gpc P)[j]? = some u → (w.alloc (.cells #[] 25)).cell? (ad.add j) = some u) :
    Calls Try.prog 79 #[.slice (some ad) P.length cap] w (CopiedG P w) := by
  have HC := Lib.hid hP
  have HO := Lib.hid (World.ownsRow_made (base := w.heap.size) (e := 25) (size := 2) w #[] 0 (Nat.le_refl _) (by simp) (by simp))
  obtain ⟨i0, hi, hz0, hz1, hz2⟩ := info_parts infoGp
  have HI := Lib.hid hi
  have HZ0 := Lib.hid hz0
  have HZ1 := Lib.hid hz1
  have HZ2 := Lib.hid hz2
  have HL := Lib.hid (gpc_len P)
  have HF := Lib.hid (gpc_one P)
  clear hP hi hz0 hz1 hz2
  skip
  go_enter Try.func79, Try.ntmps79
  go_wp2_with (at_builtin; refine wpList_append_own_at _ rfl _ _ 69 rfl w.heap.size 25 i0 (.agg #[.int .i64 0, .int .i64 0]) 2 16 Try.underlying69 HI.out HZ0.out HZ1.out HZ2.out rfl (by decide) _ 0 [] rfl HO.out ad P.length cap (gpc P) rfl HL.out HC.out HF.out ?c1 ?c2 ?c3 ?_)
  case c1 => unfold maxLen; omega
  case c2 => omega
  case c3 => simp
  intro v' w1 hown hgrow _ hblk
  have hB : Below w.heap.size w w1 := ((Below.refl w.heap.size w).alloc (Nat.le_refl _) _).grown hgrow (by simp) (by intro k hk; simp [Value.ownBlock] at hk; omega)
  (try simp only [Nat.zero_add, List.nil_append] at hown)
  have HK := Lib.hid (own_new hown)
  obtain ⟨A, cp, rfl, hS, hN⟩ := SlGp_own hown
  have HN := Lib.hid hN
  clear hN
  have HS := Lib.hid hS
  clear hown hgrow hblk hS
  go_wp2
  go_ret
  exact ⟨A, cp, rfl, HS.out, HN.out, hB⟩
theorem copyGp_nil (w : World) :
    Calls Try.prog 79 #[.slice none 0 0] w (CopiedG [] w) := by
  have HO := Lib.hid (World.ownsRow_made (base := w.heap.size) (e := 25) (size := 2) w #[] 0 (Nat.le_refl _) (by simp) (by simp))
  obtain ⟨i0, hi, hz0, hz1, hz2⟩ := info_parts infoGp
  have HI := Lib.hid hi
  clear hi hz0 hz1 hz2
  go_enter Try.func79, Try.ntmps79
  go_wp2_with (at_builtin; refine wpList_append_own_none rfl _ _ 69 rfl w.heap.size 25 i0 2 Try.underlying69 HI.out _ 0 [] rfl HO.out rfl ?_)
  go_ret
  exact ⟨some ⟨w.heap.size, 0, none⟩, 0, rfl, Or.inl rfl, (fun _ h => by cases h; exact Nat.le_refl _), (by (repeat (first | (with_reducible refine Below.drew ?_) | (with_reducible refine below_drewN ?_ _) | (with_reducible refine Below.alloc ?_ (by first | omega | (simp; done) | (simp; omega) | (simp at *; omega)) _) | (with_reducible refine Below.setCell ?_ (by first | omega | (simp; done) | (simp; omega) | (simp at *; omega)) _) | (with_reducible exact Below.refl _ _) | (with_reducible assumption) | (with_reducible refine Below.trans ?_ (Below.mono (by assumption) (by first | omega | (simp; done) | (simp; omega) | (simp at *; omega)))))))⟩
theorem copyGp_any (P : List Gp) (A : Option Addr) (cap : Nat) (w : World) (hl : P.length ≤ 1000000) (hc : A = none → cap = 0) (hS : SlGp w A P) :
    Calls Try.prog 79 #[.slice A P.length cap] w (CopiedG P w) := by
  rcases hS with rfl | ⟨c, off, rfl, hlt, hP⟩
  · cases A with
    | none => rw [hc rfl]; exact copyGp_nil w
    | some ad => exact copyGp_some [] ad cap w (by simp) (by intro j u h; simp [gpc] at h)
  · exact copyGp_some P _ cap w hl (gpc_cells (hP.below (Below.alloc (Below.refl _ w) (Nat.le_refl _) (.cells #[] 25)) hlt))
theorem copyDl_some (P : List Dl) (ad : Addr) (cap : Nat) (w : World) (hl : P.length ≤ 1000000) (hP : ∀ j u, (dlc P)[j]? = some u → (w.alloc (.cells #[] 112)).cell? (ad.add j) = some u) :
    Calls Try.prog 80 #[.slice (some ad) P.length cap] w (CopiedD P w) := by
  have HC := Lib.hid hP
  have HO := Lib.hid (World.ownsRow_made (base := w.heap.size) (e := 112) (size := 3) w #[] 0 (Nat.le_refl _) (by simp) (by simp))
  obtain ⟨i0, hi, hz0, hz1, hz2⟩ := info_parts infoDl
  have HI := Lib.hid hi
  have HZ0 := Lib.hid hz0
  have HZ1 := Lib.hid hz1
  have HZ2 := Lib.hid hz2
  have HL := Lib.hid (dlc_len P)
  have HF := Lib.hid (dlc_one P)
  clear hP hi hz0 hz1 hz2
  skip
  go_enter Try.func80, Try.ntmps80
  go_wp2_with (at_builtin; refine wpList_append_own_at _ rfl _ _ 70 rfl w.heap.size 112 i0 (.agg #[.int .i64 0, .int .i64 0, .int .i64 0]) 3 24 Try.underlying70 HI.out HZ0.out HZ1.out HZ2.out rfl (by decide) _ 0 [] rfl HO.out ad P.length cap (dlc P) rfl HL.out HC.out HF.out ?c1 ?c2 ?c3 ?_)
  case c1 => unfold maxLen; omega
  case c2 => omega
  case c3 => simp
  intro v' w1 hown hgrow _ hblk
  have hB : Below w.heap.size w w1 := ((Below.refl w.heap.size w).alloc (Nat.le_refl _) _).grown hgrow (by simp) (by intro k hk; simp [Value.ownBlock] at hk; omega)
  (try simp only [Nat.zero_add, List.nil_append] at hown)
  have HK := Lib.hid (own_new hown)
  obtain ⟨A, cp, rfl, hS, hN⟩ := SlDl_own hown
  have HN := Lib.hid hN
  clear hN
  have HS := Lib.hid hS
  clear hown hgrow hblk hS
  go_wp2
  go_ret
  exact ⟨A, cp, rfl, HS.out, HN.out, hB⟩
theorem copyDl_nil (w : World) :
    Calls Try.prog 80 #[.slice none 0 0] w (CopiedD [] w) := by
  have HO := Lib.hid (World.ownsRow_made (base := w.heap.size) (e := 112) (size := 3) w #[] 0 (Nat.le_refl _) (by simp) (by simp))
  obtain ⟨i0, hi, hz0, hz1, hz2⟩ := info_parts infoDl
  have HI := Lib.hid hi
  clear hi hz0 hz1 hz2
  go_enter Try.func80, Try.ntmps80
  go_wp2_with (at_builtin; refine wpList_append_own_none rfl _ _ 70 rfl w.heap.size 112 i0 3 Try.underlying70 HI.out _ 0 [] rfl HO.out rfl ?_)
  go_ret
  exact ⟨some ⟨w.heap.size, 0, none⟩, 0, rfl, Or.inl rfl, (fun _ h => by cases h; exact Nat.le_refl _), (by (repeat (first | (with_reducible refine Below.drew ?_) | (with_reducible refine below_drewN ?_ _) | (with_reducible refine Below.alloc ?_ (by first | omega | (simp; done) | (simp; omega) | (simp at *; omega)) _) | (with_reducible refine Below.setCell ?_ (by first | omega | (simp; done) | (simp; omega) | (simp at *; omega)) _) | (with_reducible exact Below.refl _ _) | (with_reducible assumption) | (with_reducible refine Below.trans ?_ (Below.mono (by assumption) (by first | omega | (simp; done) | (simp; omega) | (simp at *; omega)))))))⟩
theorem copyDl_any (P : List Dl) (A : Option Addr) (cap : Nat) (w : World) (hl : P.length ≤ 1000000) (hc : A = none → cap = 0) (hS : SlDl w A P) :
    Calls Try.prog 80 #[.slice A P.length cap] w (CopiedD P w) := by
  rcases hS with rfl | ⟨c, off, rfl, hlt, hP⟩
  · cases A with
    | none => rw [hc rfl]; exact copyDl_nil w
    | some ad => exact copyDl_some [] ad cap w (by simp) (by intro j u h; simp [dlc] at h)
  · exact copyDl_some P _ cap w hl (dlc_cells (hP.below (Below.alloc (Below.refl _ w) (Nat.le_refl _) (.cells #[] 112)) hlt))
end Go.Proofs.Ytbdiljbjddppcaa
