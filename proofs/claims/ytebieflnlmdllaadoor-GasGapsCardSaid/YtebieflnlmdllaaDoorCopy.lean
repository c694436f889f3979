/- What shotlinebase.CopyGases returns: a slice of its own with the same gases. -/
import Derived.Test.YtebieflnlmdllaaDoorRich
import Derived.Maps.AppendAt
import Derived.Laws.AppendOwnNone
import Derived.OwnWalk
import Derived.Outline
namespace Go.Proofs.YtebieflnlmdllaaDoor
open Go.ChangeShapes Go.WideShapes Go.ChangeAt Go.RowKit
set_option linter.unusedVariables false
set_option linter.unusedSimpArgs false

def gcs (P : List Gs) : List Value := P.flatMap fun g => [.int .i64 g.o, .int .i64 g.h]
theorem gcs_len (P : List Gs) : (gcs P).length = P.length * 2 := by
  induction P with
  | nil => rfl
  | cons g r ih =>
    show ([Value.int .i64 g.o, .int .i64 g.h] ++ gcs r).length = _
    rw [List.length_append, ih]; simp; omega
theorem gcs_get {P : List Gs} : ∀ {j : Nat} {u : Value}, (gcs P)[j]? = some u → ∃ k, ∃ hk : k < P.length, (j = k * 2 ∧ u = .int .i64 P[k].o) ∨ (j = k * 2 + 1 ∧ u = .int .i64 P[k].h) := by
  induction P with
  | nil => intro j u h; simp [gcs] at h
  | cons g r ih =>
    intro j u h
    have e : gcs (g :: r) = [Value.int .i64 g.o, .int .i64 g.h] ++ gcs r := rfl
    rw [e] at h
    match j with
    | 0 => exact ⟨0, by simp, Or.inl ⟨rfl, by simpa using h.symm⟩⟩
    | 1 => exact ⟨0, by simp, Or.inr ⟨rfl, by simpa using h.symm⟩⟩
    | j + 2 =>
      have h' : (gcs r)[j]? = some u := by simpa using h
      obtain ⟨k, hk, hh⟩ := ih h'
      refine ⟨k + 1, by simpa using hk, ?_⟩
      rcases hh with ⟨a, b⟩ | ⟨a, b⟩
      · exact Or.inl ⟨by omega, by simpa using b⟩
      · exact Or.inr ⟨by omega, by simpa using b⟩
theorem gcs_at {P : List Gs} {k : Nat} (hk : k < P.length) : (gcs P)[k * 2]? = some (.int .i64 P[k].o) ∧ (gcs P)[k * 2 + 1]? = some (.int .i64 P[k].h) := by
  induction P generalizing k with
  | nil => simp at hk
  | cons g r ih =>
    have e : gcs (g :: r) = [Value.int .i64 g.o, .int .i64 g.h] ++ gcs r := rfl
    rw [e]
    cases k with
    | zero => simp
    | succ k =>
      have := ih (k := k) (by simpa using hk)
      rw [show (k + 1) * 2 = k * 2 + 2 by omega]
      constructor
      · simpa using this.1
      · rw [show k * 2 + 2 + 1 = (k * 2 + 1) + 2 by omega]; simpa using this.2
theorem addN (c off j : Nat) : (⟨c, off, none⟩ : Addr).add j = ⟨c, off + j, none⟩ := by
  unfold Addr.add; split
  · rename_i hz; rw [hz]; rfl
  · rfl
theorem gcs_cells {w : World} {c off : Nat} {P : List Gs} (h : GasesAt w c off P) : ∀ j u, (gcs P)[j]? = some u → w.cell? ((⟨c, off, none⟩ : Addr).add j) = some u := by
  intro j u hj
  obtain ⟨k, hk, hh⟩ := gcs_get hj
  obtain ⟨h0, h1⟩ := h k hk
  rw [addN]
  rcases hh with ⟨rfl, rfl⟩ | ⟨rfl, rfl⟩
  · exact h0
  · exact h1
theorem gcs_one (P : List Gs) : ∀ u ∈ gcs P, u.oneCell' = true := by
  intro u hu
  obtain ⟨g, _, hg⟩ := List.mem_flatMap.1 hu
  simp at hg
  rcases hg with rfl | rfl <;> rfl
theorem slAt_own {w : World} {base : Nat} {e : TypeId} {v : Value} {P : List Gs} (h : w.ownsRow base e 2 v P.length (gcs P)) : ∃ A cap, v = .slice A P.length cap ∧ SlAt w A P := by
  rcases h.2 with ⟨rfl, h0⟩ | ⟨g, cap, cur, rfl, hb, hg, hle, hcap, hs, ht⟩
  · exact ⟨none, 0, by rw [h0], Or.inl (List.eq_nil_of_length_eq_zero h0)⟩
  · refine ⟨some ⟨g, 0, none⟩, cap, rfl, Or.inr ⟨g, 0, rfl, ?_, ?_⟩⟩
    · exact (Array.getElem?_eq_some_iff.1 hg).1
    · intro k hk
      obtain ⟨q0, q1⟩ := gcs_at hk
      have c := World.ownsRow.cells h (g := g) rfl
      have r0 := c _ _ q0
      have r1 := c _ _ q1
      rw [addN] at r0 r1
      exact ⟨r0, r1⟩
def Copied (P : List Gs) (w : World) (e : Ending) (w' : World) : Prop := ∃ A cap, e = .returned (.slice A P.length cap) ∧ SlAt w' A P ∧ Below w.heap.size w w'
theorem infoGas : (Tryd.prog.info? 23).map (fun i => (i.zero, i.size, i.bytes)) = some (some (.agg #[.int .i64 0, .int .i64 0]), 2, 16) := by kernel_rfl
theorem CopyGases_some (P : List Gs) (ad : Addr) (cap : Nat) (w : World) (hl : P.length ≤ 1000000) (hP : ∀ j u, (gcs P)[j]? = some u → (w.alloc (.cells #[] 23)).cell? (ad.add j) = some u) :
    Calls Tryd.prog 48 #[.slice (some ad) P.length cap] w (Copied P w) := by
  have HC := Lib.hid hP
  have HO := Lib.hid (World.ownsRow_made (base := w.heap.size) (e := 23) (size := 2) w #[] 0 (Nat.le_refl _) (by simp) (by simp))
  obtain ⟨i0, hi, hz0, hz1, hz2⟩ := info_parts infoGas
  have HI := Lib.hid hi
  have HZ0 := Lib.hid hz0
  have HZ1 := Lib.hid hz1
  have HZ2 := Lib.hid hz2
  have HL := Lib.hid (gcs_len P)
  have HF := Lib.hid (gcs_one P)
  clear hP hi hz0 hz1 hz2
  go_enter Tryd.func48, Tryd.ntmps48
  go_wp2_with (at_builtin; refine wpList_append_own_at _ rfl _ _ 72 rfl w.heap.size 23 i0 (.agg #[.int .i64 0, .int .i64 0]) 2 16 Tryd.underlying72 HI.out HZ0.out HZ1.out HZ2.out rfl (by decide) _ 0 [] rfl HO.out ad P.length cap (gcs P) rfl HL.out HC.out HF.out ?c1 ?c2 ?c3 ?_)
  case c1 => unfold maxLen; omega
  case c2 => omega
  case c3 => simp
  intro v' w1 hown hgrow _ hblk
  have hB : Below w.heap.size w w1 := ((Below.refl w.heap.size w).alloc (Nat.le_refl _) _).grown hgrow (by simp) (by intro k hk; simp [Value.ownBlock] at hk; omega)
  (try simp only [Nat.zero_add, List.nil_append] at hown)
  obtain ⟨A, cp, rfl, hS⟩ := slAt_own hown
  have HS := Lib.hid hS
  clear hown hgrow hblk hS
  go_wp2
  go_ret
  exact ⟨A, cp, rfl, HS.out, hB⟩
theorem CopyGases_nil (w : World) :
    Calls Tryd.prog 48 #[.slice none 0 0] w (Copied [] w) := by
  have HO := Lib.hid (World.ownsRow_made (base := w.heap.size) (e := 23) (size := 2) w #[] 0 (Nat.le_refl _) (by simp) (by simp))
  obtain ⟨i0, hi, hz0, hz1, hz2⟩ := info_parts infoGas
  have HI := Lib.hid hi
  clear hi hz0 hz1 hz2
  go_enter Tryd.func48, Tryd.ntmps48
  go_wp2_with (at_builtin; refine wpList_append_own_none rfl _ _ 72 rfl w.heap.size 23 i0 2 Tryd.underlying72 HI.out _ 0 [] rfl HO.out rfl ?_)
  go_ret
  exact ⟨some ⟨w.heap.size, 0, none⟩, 0, rfl, Or.inl rfl, (by (repeat (first | (with_reducible refine Below.drew ?_) | (with_reducible refine below_drewN ?_ _) | (with_reducible refine Below.alloc ?_ (by first | omega | (simp; done) | (simp; omega) | (simp at *; omega)) _) | (with_reducible refine Below.setCell ?_ (by first | omega | (simp; done) | (simp; omega) | (simp at *; omega)) _) | (with_reducible exact Below.refl _ _) | (with_reducible assumption) | (with_reducible refine Below.trans ?_ (Below.mono (by assumption) (by first | omega | (simp; done) | (simp; omega) | (simp at *; omega)))))))⟩
theorem CopyGases_any (P : List Gs) (A : Option Addr) (cap : Nat) (w : World) (hl : P.length ≤ 1000000) (hc : A = none → cap = 0) (hS : SlAt w A P) :
    Calls Tryd.prog 48 #[.slice A P.length cap] w (Copied P w) := by
  rcases hS with rfl | ⟨c, off, rfl, hlt, hP⟩
  · cases A with
    | none => rw [hc rfl]; exact CopyGases_nil w
    | some ad => exact CopyGases_some [] ad cap w (by simp) (by intro j u h; simp [gcs] at h)
  · exact CopyGases_some P _ cap w hl (gcs_cells (hP.below (Below.alloc (Below.refl _ w) (Nat.le_refl _) (.cells #[] 23)) hlt))
end Go.Proofs.YtebieflnlmdllaaDoor
