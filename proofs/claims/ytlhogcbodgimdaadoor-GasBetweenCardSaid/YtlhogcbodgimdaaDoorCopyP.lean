/- What shotlinelaw01.parts returns: a slice of its own with the same parts. -/
import Derived.Test.YtlhogcbodgimdaaDoorParts
import Derived.Maps.AppendAt
import Derived.Laws.AppendOwnNone
import Derived.OwnWalk
import Derived.Outline
namespace Go.Proofs.YtlhogcbodgimdaaDoor
open Go.ChangeShapes Go.WideShapes Go.ChangeAt Go.RowKit
set_option linter.unusedVariables false
set_option linter.unusedSimpArgs false

/-- A slice argument that holds parts: no memory is asked of an empty one. -/
def PSl (w : World) (A : Option Addr) (P : List Part) : Prop := P = [] ∨ ∃ b off, A = some ⟨b, off, none⟩ ∧ b < w.heap.size ∧ PartsAt w b off P
theorem PSl.below {w w' : World} {A : Option Addr} {P : List Part} (h : PSl w A P) (hb : Below w.heap.size w w') : PSl w' A P := by
  rcases h with rfl | ⟨b, off, rfl, hlt, hP⟩
  · exact Or.inl rfl
  · exact Or.inr ⟨b, off, rfl, by have := hb.size; omega, hP.below hb hlt⟩
def pcs (P : List Part) : List Value := P.flatMap fun g => [.int .i64 g.o, .int .i64 g.h, .int .i64 g.a]
theorem pcs_cons (g : Part) (r : List Part) : pcs (g :: r) = [Value.int .i64 g.o, .int .i64 g.h, .int .i64 g.a] ++ pcs r := rfl
theorem pcs_len (P : List Part) : (pcs P).length = P.length * 3 := by
  induction P with
  | nil => rfl
  | cons g r ih => rw [pcs_cons, List.length_append, ih]; simp; omega
theorem pcs_get {P : List Part} : ∀ {j : Nat} {u : Value}, (pcs P)[j]? = some u → ∃ k, ∃ hk : k < P.length, (j = k * 3 ∧ u = .int .i64 P[k].o) ∨ (j = k * 3 + 1 ∧ u = .int .i64 P[k].h) ∨ (j = k * 3 + 2 ∧ u = .int .i64 P[k].a) := by
  induction P with
  | nil => intro j u h; simp [pcs] at h
  | cons g r ih =>
    intro j u h
    rw [pcs_cons] at h
    match j with
    | 0 => exact ⟨0, by simp, Or.inl ⟨rfl, by simpa using h.symm⟩⟩
    | 1 => exact ⟨0, by simp, Or.inr (Or.inl ⟨rfl, by simpa using h.symm⟩)⟩
    | 2 => exact ⟨0, by simp, Or.inr (Or.inr ⟨rfl, by simpa using h.symm⟩)⟩
    | j + 3 =>
      have h' : (pcs r)[j]? = some u := by simpa using h
      obtain ⟨k, hk, hh⟩ := ih h'
      refine ⟨k + 1, by simpa using hk, ?_⟩
      rcases hh with ⟨a, b⟩ | ⟨a, b⟩ | ⟨a, b⟩
      · exact Or.inl ⟨by omega, by simpa using b⟩
      · exact Or.inr (Or.inl ⟨by omega, by simpa using b⟩)
      · exact Or.inr (Or.inr ⟨by omega, by simpa using b⟩)
theorem pcs_at {P : List Part} {k : Nat} (hk : k < P.length) : (pcs P)[k * 3]? = some (.int .i64 P[k].o) ∧ (pcs P)[k * 3 + 1]? = some (.int .i64 P[k].h) ∧ (pcs P)[k * 3 + 2]? = some (.int .i64 P[k].a) := by
  induction P generalizing k with
  | nil => simp at hk
  | cons g r ih =>
    rw [pcs_cons]
    cases k with
    | zero => simp
    | succ k =>
      have := ih (k := k) (by simpa using hk)
      rw [show (k + 1) * 3 = k * 3 + 3 by omega]
      refine ⟨?_, ?_, ?_⟩
      · simpa using this.1
      · rw [show k * 3 + 3 + 1 = (k * 3 + 1) + 3 by omega]; simpa using this.2.1
      · rw [show k * 3 + 3 + 2 = (k * 3 + 2) + 3 by omega]; simpa using this.2.2
theorem addNp (c off j : Nat) : (⟨c, off, none⟩ : Addr).add j = ⟨c, off + j, none⟩ := by
  unfold Addr.add; split
  · rename_i hz; rw [hz]; rfl
  · rfl
theorem pcs_cells {w : World} {c off : Nat} {P : List Part} (h : PartsAt w c off P) : ∀ j u, (pcs P)[j]? = some u → w.cell? ((⟨c, off, none⟩ : Addr).add j) = some u := by
  intro j u hj
  obtain ⟨k, hk, hh⟩ := pcs_get hj
  obtain ⟨h0, h1, h2⟩ := h k hk
  rw [addNp]
  rcases hh with ⟨rfl, rfl⟩ | ⟨rfl, rfl⟩ | ⟨rfl, rfl⟩
  · exact h0
  · exact h1
  · exact h2
theorem pcs_one (P : List Part) : ∀ u ∈ pcs P, u.oneCell' = true := by
  intro u hu
  obtain ⟨g, _, hg⟩ := List.mem_flatMap.1 hu
  simp at hg
  rcases hg with rfl | rfl | rfl <;> rfl
def CopiedP (P : List Part) (w : World) (e : Ending) (w' : World) : Prop := ∃ b cap, e = .returned (.slice (some ⟨b, 0, none⟩) P.length cap) ∧ b < w'.heap.size ∧ PartsAt w' b 0 P ∧ w.heap.size ≤ b ∧ Below w.heap.size w w'
theorem pAt_own {w : World} {base : Nat} {e : TypeId} {v : Value} {P : List Part} (hp : v ≠ .slice none 0 0) (h : w.ownsRow base e 3 v P.length (pcs P)) : ∃ b cap, v = .slice (some ⟨b, 0, none⟩) P.length cap ∧ b < w.heap.size ∧ PartsAt w b 0 P ∧ base ≤ b := by
  rcases h.2 with ⟨hv, h0⟩ | ⟨g, cap, cur, rfl, hb, hg, hle, hcap, hs, ht⟩
  · exact absurd hv hp
  · refine ⟨g, cap, rfl, (Array.getElem?_eq_some_iff.1 hg).1, ?_, hb⟩
    intro k hk
    obtain ⟨q0, q1, q2⟩ := pcs_at hk
    have c := World.ownsRow.cells h (g := g) rfl
    have r0 := c _ _ q0
    have r1 := c _ _ q1
    have r2 := c _ _ q2
    rw [addNp] at r0 r1 r2
    exact ⟨r0, r1, r2⟩
theorem infoPart : (Tryd.prog.info? 37).map (fun i => (i.zero, i.size, i.bytes)) = some (some (.agg #[.int .i64 0, .int .i64 0, .int .i64 0]), 3, 24) := by kernel_rfl
theorem parts_some (P : List Part) (ad : Addr) (cap : Nat) (w : World) (hl : P.length ≤ 1000000) (hP : ∀ j u, (pcs P)[j]? = some u → (w.alloc (.cells #[] 37)).cell? (ad.add j) = some u) :
    Calls Tryd.prog 9 #[.slice (some ad) P.length cap] w (CopiedP P w) := by
  have HC := Lib.hid hP
  have HO := Lib.hid (World.ownsRow_made (base := w.heap.size) (e := 37) (size := 3) w #[] 0 (Nat.le_refl _) (by simp) (by simp))
  obtain ⟨i0, hi, hz0, hz1, hz2⟩ := info_parts infoPart
  have HI := Lib.hid hi
  have HZ0 := Lib.hid hz0
  have HZ1 := Lib.hid hz1
  have HZ2 := Lib.hid hz2
  have HL := Lib.hid (pcs_len P)
  have HF := Lib.hid (pcs_one P)
  clear hP hi hz0 hz1 hz2
  go_enter Tryd.func9, Tryd.ntmps9
  go_wp2_with (at_builtin; refine wpList_append_own_at _ rfl _ _ 22 rfl w.heap.size 37 i0 (.agg #[.int .i64 0, .int .i64 0, .int .i64 0]) 3 24 Tryd.underlying22 HI.out HZ0.out HZ1.out HZ2.out rfl (by decide) _ 0 [] rfl HO.out ad P.length cap (pcs P) rfl HL.out HC.out HF.out ?c1 ?c2 ?c3 ?_)
  case c1 => unfold maxLen; omega
  case c2 => omega
  case c3 => simp
  intro v' w1 hown hgrow hnn hblk
  have hp : v' ≠ .slice none 0 0 := by first | exact hnn | exact fun e => by have := (hnn.1 e).1; simp at this
  have hB : Below w.heap.size w w1 := ((Below.refl w.heap.size w).alloc (Nat.le_refl _) _).grown hgrow (by simp) (by intro k hk; simp [Value.ownBlock] at hk; omega)
  (try simp only [Nat.zero_add, List.nil_append] at hown)
  obtain ⟨A, cp, rfl, hS, hT, hU⟩ := pAt_own hp hown
  have HS := Lib.hid hT
  clear hown hgrow hblk hT hnn
  go_wp2
  go_ret
  exact ⟨A, cp, rfl, hS, HS.out, hU, hB⟩
theorem parts_nil (w : World) :
    Calls Tryd.prog 9 #[.slice none 0 0] w (CopiedP [] w) := by
  have HO := Lib.hid (World.ownsRow_made (base := w.heap.size) (e := 37) (size := 3) w #[] 0 (Nat.le_refl _) (by simp) (by simp))
  obtain ⟨i0, hi, hz0, hz1, hz2⟩ := info_parts infoPart
  have HI := Lib.hid hi
  clear hi hz0 hz1 hz2
  go_enter Tryd.func9, Tryd.ntmps9
  go_wp2_with (at_builtin; refine wpList_append_own_none rfl _ _ 22 rfl w.heap.size 37 i0 3 Tryd.underlying22 HI.out _ 0 [] rfl HO.out rfl ?_)
  go_ret
  exact ⟨w.heap.size, 0, rfl, by simp, by intro k hk; simp at hk, by omega, (by (repeat (first | (with_reducible refine Below.drew ?_) | (with_reducible refine below_drewN ?_ _) | (with_reducible refine Below.alloc ?_ (by first | omega | (simp; done) | (simp; omega) | (simp at *; omega)) _) | (with_reducible refine Below.setCell ?_ (by first | omega | (simp; done) | (simp; omega) | (simp at *; omega)) _) | (with_reducible exact Below.refl _ _) | (with_reducible assumption) | (with_reducible refine Below.trans ?_ (Below.mono (by assumption) (by first | omega | (simp; done) | (simp; omega) | (simp at *; omega)))))))⟩
theorem parts_any (P : List Part) (A : Option Addr) (cap : Nat) (w : World) (hl : P.length ≤ 1000000) (hc : A = none → cap = 0) (hS : PSl w A P) :
    Calls Tryd.prog 9 #[.slice A P.length cap] w (CopiedP P w) := by
  rcases hS with rfl | ⟨c, off, rfl, hlt, hP⟩
  · cases A with
    | none => rw [hc rfl]; exact parts_nil w
    | some ad => exact parts_some [] ad cap w (by simp) (by intro j u h; simp [pcs] at h)
  · exact parts_some P _ cap w hl (pcs_cells (hP.below (Below.alloc (Below.refl _ w) (Nat.le_refl _) (.cells #[] 37)) hlt))
end Go.Proofs.YtlhogcbodgimdaaDoor
