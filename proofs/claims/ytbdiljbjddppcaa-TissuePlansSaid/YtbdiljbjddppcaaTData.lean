/- Compartments and loads as lists in memory; the first error of a list. -/
import Derived.Test.YtbdiljbjddppcaaTComp
import Derived.Outline
namespace Go.Proofs.Ytbdiljbjddppcaa
open Go.ChangeShapes Go.WideShapes Go.ChangeAt Go.RowKit
set_option linter.unusedVariables false
set_option linter.unusedSimpArgs false

/-- A load: nitrogen from a to b, helium from c to d. -/
structure Ld where
  a : Int
  b : Int
  c : Int
  d : Int
instance : Inhabited Ld := ⟨⟨0, 0, 0, 0⟩⟩
/-- A compartment: half times of nitrogen and helium, base, slope. -/
structure Cm where
  n : Int
  h : Int
  b : Int
  s : Int
instance : Inhabited Cm := ⟨⟨0, 0, 0, 0⟩⟩
def LdAt (w : World) (b off : Nat) (L : List Ld) : Prop :=
  ∀ k, (hk : k < L.length) → w.cell? ⟨b, off + k * 4, none⟩ = some (.int .i64 (L[k]).a) ∧ w.cell? ⟨b, off + k * 4 + 1, none⟩ = some (.int .i64 (L[k]).b) ∧ w.cell? ⟨b, off + k * 4 + 2, none⟩ = some (.int .i64 (L[k]).c) ∧ w.cell? ⟨b, off + k * 4 + 3, none⟩ = some (.int .i64 (L[k]).d)
def CmAt (w : World) (b off : Nat) (T : List Cm) : Prop :=
  ∀ k, (hk : k < T.length) → w.cell? ⟨b, off + k * 4, none⟩ = some (.int .i64 (T[k]).n) ∧ w.cell? ⟨b, off + k * 4 + 1, none⟩ = some (.int .i64 (T[k]).h) ∧ w.cell? ⟨b, off + k * 4 + 2, none⟩ = some (.int .i64 (T[k]).b) ∧ w.cell? ⟨b, off + k * 4 + 3, none⟩ = some (.int .i64 (T[k]).s)
theorem LdAt.below {w w' : World} {b off : Nat} {L : List Ld} (h : LdAt w b off L) {n : Nat} (hb : Below n w w') (hlt : b < n) : LdAt w' b off L := by
  intro k hk
  obtain ⟨h1, h2, h3, h4⟩ := h k hk
  have hc : ∀ o, w'.cell? ⟨b, o, none⟩ = w.cell? ⟨b, o, none⟩ := fun o => hb.cell (p := ⟨b, o, none⟩) hlt
  exact ⟨by rw [hc]; exact h1, by rw [hc]; exact h2, by rw [hc]; exact h3, by rw [hc]; exact h4⟩
theorem CmAt.below {w w' : World} {b off : Nat} {L : List Cm} (h : CmAt w b off L) {n : Nat} (hb : Below n w w') (hlt : b < n) : CmAt w' b off L := by
  intro k hk
  obtain ⟨h1, h2, h3, h4⟩ := h k hk
  have hc : ∀ o, w'.cell? ⟨b, o, none⟩ = w.cell? ⟨b, o, none⟩ := fun o => hb.cell (p := ⟨b, o, none⟩) hlt
  exact ⟨by rw [hc]; exact h1, by rw [hc]; exact h2, by rw [hc]; exact h3, by rw [hc]; exact h4⟩
/-- A slice that holds a list of loads: nil, or cells of an old block. -/
def SlLd (w : World) (A : Option Addr) (L : List Ld) : Prop := L = [] ∨ ∃ b off, A = some ⟨b, off, none⟩ ∧ b < w.heap.size ∧ LdAt w b off L
def SlCm (w : World) (A : Option Addr) (L : List Cm) : Prop := L = [] ∨ ∃ b off, A = some ⟨b, off, none⟩ ∧ b < w.heap.size ∧ CmAt w b off L
theorem SlLd.below {w w' : World} {A : Option Addr} {L : List Ld} (h : SlLd w A L) (hb : Below w.heap.size w w') : SlLd w' A L := by
  rcases h with h | ⟨b, off, rfl, hlt, h⟩
  · exact Or.inl h
  · exact Or.inr ⟨b, off, rfl, Nat.lt_of_lt_of_le hlt hb.size, h.below hb hlt⟩
theorem SlCm.below {w w' : World} {A : Option Addr} {L : List Cm} (h : SlCm w A L) (hb : Below w.heap.size w w') : SlCm w' A L := by
  rcases h with h | ⟨b, off, rfl, hlt, h⟩
  · exact Or.inl h
  · exact Or.inr ⟨b, off, rfl, Nat.lt_of_lt_of_le hlt hb.size, h.below hb hlt⟩
theorem SlLd.any {w w' : World} {A : Option Addr} {L : List Ld} {n : Nat} (h : SlLd w A L) (hb : Below n w w') (hn : w.heap.size ≤ n) : SlLd w' A L := h.below (hb.mono hn)
theorem SlCm.any {w w' : World} {A : Option Addr} {L : List Cm} {n : Nat} (h : SlCm w A L) (hb : Below n w w') (hn : w.heap.size ≤ n) : SlCm w' A L := h.below (hb.mono hn)

/-- The first error of a list. -/
def fstE {α : Type} (f : α → Int) : List α → Int
  | [] => 0
  | p :: r => if f p = 0 then fstE f r else f p
theorem fstE_z {α : Type} {f : α → Int} {P : List α} (h : ∀ k, (hk : k < P.length) → f P[k] = 0) : fstE f P = 0 := by
  induction P with
  | nil => rfl
  | cons p r ih =>
    unfold fstE
    rw [if_pos (show f p = 0 from h 0 (by simp))]
    exact ih fun k hk => h (k + 1) (by simpa using hk)
theorem fstE_at {α : Type} {f : α → Int} {P : List α} {k : Nat} (hk : k < P.length) (hz : ∀ j, (hj : j < k) → f (P[j]'(by omega)) = 0) (hn : f P[k] ≠ 0) : fstE f P = f P[k] := by
  induction P generalizing k with
  | nil => simp at hk
  | cons p r ih =>
    unfold fstE
    cases k with
    | zero => exact if_neg hn
    | succ k =>
      rw [if_pos (show f p = 0 from hz 0 (by omega))]
      exact ih (by simpa using hk) (fun j hj => hz (j + 1) (by omega)) hn
theorem fstE_all {α : Type} {f : α → Int} {P : List α} (h : fstE f P = 0) : ∀ k, (hk : k < P.length) → f P[k] = 0 := by
  induction P with
  | nil => intro k hk; simp at hk
  | cons p r ih =>
    unfold fstE at h
    by_cases h0 : f p = 0
    · rw [if_pos h0] at h
      intro k hk
      cases k with
      | zero => exact h0
      | succ k => exact ih h k (by simpa using hk)
    · rw [if_neg h0] at h; exact absurd h h0
theorem neI_f {a b : Int} (h : a = b) : (a != b) = false := by subst h; simp
theorem neI_t {a b : Int} (h : a ≠ b) : (a != b) = true := by simpa using h
/-- The error of a load. -/
def lodE (a b c d : Int) : Int := if inB a 0 100000000 = true then if inB b 0 100000000 = true then if inB c 0 100000000 = true then if inB d 0 100000000 = true then if b < a then 9 else if d < c then 9 else 0 else 2 else 2 else 2 else 2
def loadE (x : Ld) : Int := lodE x.a x.b x.c x.d
def compE (x : Cm) : Int := cmpE x.n x.h x.b x.s
/-- The error of a table; of a table with loads. -/
def tabE (T : List Cm) : Int := if inB T.length 1 16 = true then fstE compE T else 10
def loadsE (T : List Cm) (L : List Ld) : Int := if tabE T = 0 then if L.length = T.length then fstE loadE L else 10 else tabE T
theorem ez2 (e : Int) : (Hid (e = 0) ∧ (e != 0) = false) ∨ (Hid (e ≠ 0) ∧ (e != 0) = true) := by
  by_cases h : e = 0
  · exact Or.inl ⟨h, by simp [h]⟩
  · exact Or.inr ⟨h, by simpa using h⟩
theorem lodE_1 {a b c d : Int} (h1 : inB a 0 100000000 = false) : lodE a b c d = 2 := by unfold lodE; rw [if_neg (by rw [h1]; exact Bool.false_ne_true)]
theorem lodE_2 {a b c d : Int} (h1 : inB a 0 100000000 = true) (h2 : inB b 0 100000000 = false) : lodE a b c d = 2 := by unfold lodE; rw [if_pos h1, if_neg (by rw [h2]; exact Bool.false_ne_true)]
theorem lodE_3 {a b c d : Int} (h1 : inB a 0 100000000 = true) (h2 : inB b 0 100000000 = true) (h3 : inB c 0 100000000 = false) : lodE a b c d = 2 := by unfold lodE; rw [if_pos h1, if_pos h2, if_neg (by rw [h3]; exact Bool.false_ne_true)]
theorem lodE_4 {a b c d : Int} (h1 : inB a 0 100000000 = true) (h2 : inB b 0 100000000 = true) (h3 : inB c 0 100000000 = true) (h4 : inB d 0 100000000 = false) : lodE a b c d = 2 := by unfold lodE; rw [if_pos h1, if_pos h2, if_pos h3, if_neg (by rw [h4]; exact Bool.false_ne_true)]
theorem lodE_5 {a b c d : Int} (h1 : inB a 0 100000000 = true) (h2 : inB b 0 100000000 = true) (h3 : inB c 0 100000000 = true) (h4 : inB d 0 100000000 = true) (h5 : b < a) : lodE a b c d = 9 := by unfold lodE; rw [if_pos h1, if_pos h2, if_pos h3, if_pos h4, if_pos h5]
theorem lodE_6 {a b c d : Int} (h1 : inB a 0 100000000 = true) (h2 : inB b 0 100000000 = true) (h3 : inB c 0 100000000 = true) (h4 : inB d 0 100000000 = true) (h5 : ¬ b < a) (h6 : d < c) : lodE a b c d = 9 := by unfold lodE; rw [if_pos h1, if_pos h2, if_pos h3, if_pos h4, if_neg h5, if_pos h6]
theorem lodE_7 {a b c d : Int} (h1 : inB a 0 100000000 = true) (h2 : inB b 0 100000000 = true) (h3 : inB c 0 100000000 = true) (h4 : inB d 0 100000000 = true) (h5 : ¬ b < a) (h6 : ¬ d < c) : lodE a b c d = 0 := by unfold lodE; rw [if_pos h1, if_pos h2, if_pos h3, if_pos h4, if_neg h5, if_neg h6]
theorem lodE_ok {a b c d : Int} (h : lodE a b c d = 0) : (0 ≤ a ∧ a ≤ b ∧ b ≤ 100000000) ∧ (0 ≤ c ∧ c ≤ d ∧ d ≤ 100000000) := by
  unfold lodE at h
  rcases inB_cases a 0 100000000 with h1 | h1 <;> rcases inB_cases b 0 100000000 with h2 | h2 <;> rcases inB_cases c 0 100000000 with h3 | h3 <;> rcases inB_cases d 0 100000000 with h4 | h4 <;> simp only [h1, h2, h3, h4] at h <;> simp at h
  rw [inB_iff] at h1 h2 h3 h4
  omega
end Go.Proofs.Ytbdiljbjddppcaa
