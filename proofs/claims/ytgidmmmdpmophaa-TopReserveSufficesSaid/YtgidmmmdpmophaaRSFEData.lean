import Derived.Test.YtgidmmmdpmophaaRSFRows2
import Derived.Test.YtgidmmmdpmophaaRSFLeaf
import Derived.Test.YtgidmmmdpmophaaRSFBlk
import Derived.Test.YtgidmmmdpmophaaRSFApg
import Derived.Outline
namespace Go.Proofs.Ytgidmmmdpmophaa
open Go.ChangeShapes Go.WideShapes Go.ChangeAt Go.RowKit
set_option linter.unusedVariables false
set_option linter.unusedSimpArgs false
structure Ga where
  o : Int
  h : Int
instance : Inhabited Ga := ⟨⟨0, 0⟩⟩
def gaV (x : Ga) : List Value := [.int .i64 x.o, .int .i64 x.h]
structure Le where
  s : Int
  d : Int
  g : Int
instance : Inhabited Le := ⟨⟨0, 0, 0⟩⟩
def leV (x : Le) : List Value := [.int .i64 x.s, .int .i64 x.d, .int .i64 x.g]
structure Pt where
  s : Int
  d : Int
instance : Inhabited Pt := ⟨⟨0, 0⟩⟩
def ptV (x : Pt) : List Value := [.int .i64 x.s, .int .i64 x.d]
structure Ox where
  f : Int
  r : Int
instance : Inhabited Ox := ⟨⟨0, 0⟩⟩
def oxV (x : Ox) : List Value := [.int .i64 x.f, .int .i64 x.r]
theorem ga_at {w : World} {b off : Nat} {L : List Ga} (h : RowsAt gaV 2 w b off L) {k : Nat} (hk : k < L.length) : w.cell? ⟨b, off + k * 2, none⟩ = some (.int .i64 L[k].o) ∧ w.cell? ⟨b, off + k * 2 + 1, none⟩ = some (.int .i64 L[k].h) := ⟨h k hk 0 (by omega), h k hk 1 (by omega)⟩
theorem le_at {w : World} {b off : Nat} {L : List Le} (h : RowsAt leV 3 w b off L) {k : Nat} (hk : k < L.length) : w.cell? ⟨b, off + k * 3, none⟩ = some (.int .i64 L[k].s) ∧ w.cell? ⟨b, off + k * 3 + 1, none⟩ = some (.int .i64 L[k].d) ∧ w.cell? ⟨b, off + k * 3 + 2, none⟩ = some (.int .i64 L[k].g) := ⟨h k hk 0 (by omega), h k hk 1 (by omega), h k hk 2 (by omega)⟩
theorem pt_at {w : World} {b off : Nat} {L : List Pt} (h : RowsAt ptV 2 w b off L) {k : Nat} (hk : k < L.length) : w.cell? ⟨b, off + k * 2, none⟩ = some (.int .i64 L[k].s) ∧ w.cell? ⟨b, off + k * 2 + 1, none⟩ = some (.int .i64 L[k].d) := ⟨h k hk 0 (by omega), h k hk 1 (by omega)⟩
theorem ox_at {w : World} {b off : Nat} {L : List Ox} (h : RowsAt oxV 2 w b off L) {k : Nat} (hk : k < L.length) : w.cell? ⟨b, off + k * 2, none⟩ = some (.int .i64 L[k].f) ∧ w.cell? ⟨b, off + k * 2 + 1, none⟩ = some (.int .i64 L[k].r) := ⟨h k hk 0 (by omega), h k hk 1 (by omega)⟩
theorem gaV_one : ∀ g, ∀ u ∈ gaV g, u.oneCell' = true := by
  intro g u hu; simp [gaV] at hu; rcases hu with rfl | rfl <;> rfl
theorem leV_one : ∀ g, ∀ u ∈ leV g, u.oneCell' = true := by
  intro g u hu; simp [leV] at hu; rcases hu with rfl | rfl | rfl <;> rfl
theorem oxV_one : ∀ g, ∀ u ∈ oxV g, u.oneCell' = true := by
  intro g u hu; simp [oxV] at hu; rcases hu with rfl | rfl <;> rfl
/-- Where the elements of a slice that is not empty lie. -/
theorem SlRows.at' {α : Type} {f : α → List Value} {n : Nat} {w : World} {A : Option Addr} {L : List α} (h : SlRows f n w A L) {k : Nat} (hk : k < L.length) : ∃ b o, A = some ⟨b, o, none⟩ ∧ b < w.heap.size ∧ RowsAt f n w b o L := by
  rcases h with h | h
  · rw [h] at hk; simp at hk
  · exact h
/-- The first error of a list. -/
def fstI {α : Type} (f : α → Int) : List α → Int
  | [] => 0
  | x :: l => if f x = 0 then fstI f l else f x
theorem fstI_stop {α : Type} {f : α → Int} : ∀ {L : List α} {k : Nat} (hk : k < L.length), (∀ j, (hj : j < k) → f (L[j]'(by omega)) = 0) → f L[k] ≠ 0 → fstI f L = f L[k]
  | [], k, hk, _, _ => absurd hk (by simp)
  | x :: l, 0, _, _, h => by
    show (if f x = 0 then _ else f x) = f x
    exact if_neg h
  | x :: l, k + 1, hk, h0, h => by
    have this : f x = 0 := h0 0 (by omega)
    show (if f x = 0 then fstI f l else f x) = f (l[k]'(by simpa using hk))
    rw [if_pos this]
    exact fstI_stop (by simpa using hk) (fun j hj => h0 (j + 1) (by omega)) h
theorem fstI_all {α : Type} {f : α → Int} : ∀ {L : List α}, (∀ j, (hj : j < L.length) → f L[j] = 0) → fstI f L = 0
  | [], _ => rfl
  | x :: l, h => by
    have this : f x = 0 := h 0 (by simp)
    show (if f x = 0 then fstI f l else f x) = 0
    rw [if_pos this]
    exact fstI_all fun j hj => h (j + 1) (by simpa using hj)
theorem fstI_ok {α : Type} {f : α → Int} : ∀ {L : List α}, fstI f L = 0 → ∀ x ∈ L, f x = 0
  | [], _, x, hx => absurd hx (by simp)
  | y :: l, h, x, hx => by
    unfold fstI at h
    by_cases e : f y = 0
    · rw [if_pos e] at h
      rcases List.mem_cons.1 hx with rfl | hx
      · exact e
      · exact fstI_ok h x hx
    · rw [if_neg e] at h; exact absurd h e
end Go.Proofs.Ytgidmmmdpmophaa
