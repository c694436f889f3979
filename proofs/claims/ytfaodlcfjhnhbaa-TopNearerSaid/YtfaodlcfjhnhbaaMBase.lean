import Derived.Test.YtfaodlcfjhnhbaaMRoots
import Derived.Outline
/- The contracts of the small functions that package tissue checks numbers with; the program's root of a level. -/
namespace Go.Proofs.Ytfaodlcfjhnhbaa
open Go.ChangeShapes Go.WideShapes Go.ChangeAt Go.RowKit
set_option linter.unusedVariables false
set_option linter.unusedSimpArgs false

theorem cWithin_any (n a b : Int) (w : World) :
    Calls Try.prog 52 #[.int .i64 n, .int .i64 a, .int .i64 b] w fun e w' => e = .returned (.bool (inB n a b)) ∧ w = w' := by
  by_cases h1 : a ≤ n
  · by_cases h2 : n ≤ b
    · have h3 := inB_true h1 h2
      go_enter Try.func52, Try.ntmps52
      go_wp2
      go_ret
      exact ⟨by first | rfl | exact ret_bool h3.symm, rfl⟩
    · have h3 := inB_f2 (a := a) h2
      go_enter Try.func52, Try.ntmps52
      go_wp2
      go_ret
      exact ⟨by first | rfl | exact ret_bool h3.symm, rfl⟩
  · have h3 := inB_f1 (b := b) h1
    go_enter Try.func52, Try.ntmps52
    go_wp2
    go_ret
    exact ⟨by first | rfl | exact ret_bool h3.symm, rfl⟩
theorem cRange_any (n a b : Int) (w : World) :
    Calls Try.prog 35 #[.int .i64 n, .int .i64 a, .int .i64 b] w fun e w' => e = .returned (.int .i64 (rngE n a b)) ∧ w = w' := by
  rcases inB_cases n a b with h | h
  · have h3 := rngE_t h
    go_enter Try.func35, Try.ntmps35
    go_wp2_with (go_at_call 52; refine (cWithin_any _ _ _ _).mono ?_; rintro e w' ⟨rfl, rfl⟩)
    go_ret
    exact ⟨by first | rfl | exact ret_int h3.symm, rfl⟩
  · have h3 := rngE_f h
    go_enter Try.func35, Try.ntmps35
    go_wp2_with (go_at_call 52; refine (cWithin_any _ _ _ _).mono ?_; rintro e w' ⟨rfl, rfl⟩)
    go_ret
    exact ⟨by first | rfl | exact ret_int h3.symm, rfl⟩
theorem tcheckPressure_any (n : Int) (w : World) :
    Calls Try.prog 44 #[.int .i64 n] w fun e w' => e = .returned (.int .i64 (rngE n 400 31100)) ∧ w = w' := by
  go_enter Try.func44, Try.ntmps44
  go_wp2_with (go_at_call 35; refine (cRange_any _ _ _ _).mono ?_; rintro e w' ⟨rfl, rfl⟩)
  go_ret
  exact ⟨rfl, rfl⟩
theorem tcheckSurface_any (n : Int) (w : World) :
    Calls Try.prog 34 #[.int .i64 n] w fun e w' => e = .returned (.int .i64 (rngE n 400 1100)) ∧ w = w' := by
  go_enter Try.func34, Try.ntmps34
  go_wp2_with (go_at_call 35; refine (cRange_any _ _ _ _).mono ?_; rintro e w' ⟨rfl, rfl⟩)
  go_ret
  exact ⟨rfl, rfl⟩
theorem tcheckFactor_any (n : Int) (w : World) :
    Calls Try.prog 48 #[.int .i64 n] w fun e w' => e = .returned (.int .i64 (rngE n 0 1000)) ∧ w = w' := by
  go_enter Try.func48, Try.ntmps48
  go_wp2_with (go_at_call 35; refine (cRange_any _ _ _ _).mono ?_; rintro e w' ⟨rfl, rfl⟩)
  go_ret
  exact ⟨rfl, rfl⟩
theorem tcheckFine_any (n : Int) (w : World) :
    Calls Try.prog 26 #[.int .i64 n] w fun e w' => e = .returned (.int .i64 (rngE n 0 6)) ∧ w = w' := by
  go_enter Try.func26, Try.ntmps26
  go_wp2_with (go_at_call 35; refine (cRange_any _ _ _ _).mono ?_; rintro e w' ⟨rfl, rfl⟩)
  go_ret
  exact ⟨rfl, rfl⟩
end Go.Proofs.Ytfaodlcfjhnhbaa

/- What check.First returns: the first error of a list that is one. -/
namespace Go.Proofs.Ytfaodlcfjhnhbaa
open Go.ChangeShapes Go.WideShapes Go.ChangeAt Go.RowKit
set_option linter.unusedVariables false
set_option linter.unusedSimpArgs false

theorem cFirst_any (l : List Int) (b off : Nat) (w : World) (hl : l.length ≤ 1000) (h0 : 0 < l.length)
    (hc : ∀ k, k < l.length → w.cell? ⟨b, off + k, none⟩ = some (.int .i64 (l.getD k 0))) :
    Calls Try.prog 23 #[.slice (some ⟨b, off, none⟩) l.length l.length] w fun e w' => e = .returned (.int .i64 (firE l)) ∧ w = w' := by
  have HC := Lib.hid hc
  clear hc
  go_enter Try.func23, Try.ntmps23
  go_wp2
  go_loop [7] (fun i => ∃ k : Nat, k ≤ l.length ∧ i = .int .i64 k ∧ Hid (∀ j, j < k → l.getD j 0 = 0)) (fun i => l.length - (intOf i).toNat)
  case atStart => exact ⟨0, by omega, rfl, fun j hj => by omega⟩
  case round =>
    obtain ⟨k, hk, rfl, hz⟩ := hrel
    by_cases hlt : k < l.length
    · have hcell := HC.out k hlt
      by_cases hn : l.getD k 0 = 0
      · rw [hn] at hcell
        go_wp2
        go_round
        case rel => exact ⟨k + 1, by omega, by go_num, fun j hj => by
          by_cases e : j = k
          · rw [e]; exact hn
          · exact hz.out j (by omega)⟩
        case measure => simp [intOf]; omega
      · have hr := firE_at hlt hz.out hn
        have hb : (l.getD k 0 != 0) = true := by simp; simpa using hn
        generalize hg : l.getD k 0 = x at *
        clear hg
        go_wp2
        go_ret
        exact ⟨by first | rfl | exact ret_int hr.symm, rfl⟩
    · have hkk : k = l.length := by omega
      have hr : firE l = 0 := firE_z (fun x hx => by
        obtain ⟨j, hj, rfl⟩ := List.getElem_of_mem hx
        have := hz.out j (by omega)
        simpa [hj] using this)
      clear hk
      go_wp2
      go_ret
      exact ⟨by first | rfl | exact ret_int hr.symm, rfl⟩
theorem cFirst2 (x y : Int) (T : TypeId) (b : Nat) (w : World) (hb : w.heap.size = b) :
    Calls Try.prog 23 #[.slice (some ⟨b, 0, none⟩) 2 2] (w.alloc (.cells #[.int .i64 x, .int .i64 y] T)).drew fun e w' => e = .returned (.int .i64 (firE [x, y])) ∧ (w.alloc (.cells #[.int .i64 x, .int .i64 y] T)).drew = w' := by
  subst hb
  refine cFirst_any [x, y] w.heap.size 0 _ (by simp) (by simp) ?_
  intro k hk
  have : k = 0 ∨ k = 1 := by simp at hk; omega
  rcases this with rfl | rfl <;> simp
theorem cFirst2n (x y : Int) (T : TypeId) (b : Nat) (w : World) (hb : w.heap.size = b) :
    Calls Try.prog 23 #[.slice (some ⟨b, 0, none⟩) 2 2] (w.alloc (.cells #[.int .i64 x, .int .i64 y] T)) fun e w' => e = .returned (.int .i64 (firE [x, y])) ∧ (w.alloc (.cells #[.int .i64 x, .int .i64 y] T)) = w' := by
  subst hb
  refine cFirst_any [x, y] w.heap.size 0 _ (by simp) (by simp) ?_
  intro k hk
  have : k = 0 ∨ k = 1 := by simp at hk; omega
  rcases this with rfl | rfl <;> simp
theorem cFirst3 (x y z : Int) (T : TypeId) (b : Nat) (w : World) (hb : w.heap.size = b) :
    Calls Try.prog 23 #[.slice (some ⟨b, 0, none⟩) 3 3] (w.alloc (.cells #[.int .i64 x, .int .i64 y, .int .i64 z] T)).drew fun e w' => e = .returned (.int .i64 (firE [x, y, z])) ∧ (w.alloc (.cells #[.int .i64 x, .int .i64 y, .int .i64 z] T)).drew = w' := by
  subst hb
  refine cFirst_any [x, y, z] w.heap.size 0 _ (by simp) (by simp) ?_
  intro k hk
  have : k = 0 ∨ k = 1 ∨ k = 2 := by simp at hk; omega
  rcases this with rfl | rfl | rfl <;> simp
theorem cFirst4 (x y z u : Int) (T : TypeId) (b : Nat) (w : World) (hb : w.heap.size = b) :
    Calls Try.prog 23 #[.slice (some ⟨b, 0, none⟩) 4 4] (w.alloc (.cells #[.int .i64 x, .int .i64 y, .int .i64 z, .int .i64 u] T)).drew fun e w' => e = .returned (.int .i64 (firE [x, y, z, u])) ∧ (w.alloc (.cells #[.int .i64 x, .int .i64 y, .int .i64 z, .int .i64 u] T)).drew = w' := by
  subst hb
  refine cFirst_any [x, y, z, u] w.heap.size 0 _ (by simp) (by simp) ?_
  intro k hk
  have : k = 0 ∨ k = 1 ∨ k = 2 ∨ k = 3 := by simp at hk; omega
  rcases this with rfl | rfl | rfl | rfl <;> simp
theorem cFirst2c (x y : Int) (b : Nat) (w : World) (h0 : w.cell? ⟨b, 0, none⟩ = some (.int .i64 x)) (h1 : w.cell? ⟨b, 1, none⟩ = some (.int .i64 y)) :
    Calls Try.prog 23 #[.slice (some ⟨b, 0, none⟩) 2 2] w fun e w' => e = .returned (.int .i64 (firE [x, y])) ∧ w = w' := by
  refine cFirst_any [x, y] b 0 _ (by simp) (by simp) ?_
  intro k hk
  have : k = 0 ∨ k = 1 := by simp at hk; omega
  rcases this with rfl | rfl <;> simp [*]
theorem cFirst3c (x y z : Int) (b : Nat) (w : World) (h0 : w.cell? ⟨b, 0, none⟩ = some (.int .i64 x)) (h1 : w.cell? ⟨b, 1, none⟩ = some (.int .i64 y)) (h2 : w.cell? ⟨b, 2, none⟩ = some (.int .i64 z)) :
    Calls Try.prog 23 #[.slice (some ⟨b, 0, none⟩) 3 3] w fun e w' => e = .returned (.int .i64 (firE [x, y, z])) ∧ w = w' := by
  refine cFirst_any [x, y, z] b 0 _ (by simp) (by simp) ?_
  intro k hk
  have : k = 0 ∨ k = 1 ∨ k = 2 := by simp at hk; omega
  rcases this with rfl | rfl | rfl <;> simp [*]
theorem cFirst4c (x y z u : Int) (b : Nat) (w : World) (h0 : w.cell? ⟨b, 0, none⟩ = some (.int .i64 x)) (h1 : w.cell? ⟨b, 1, none⟩ = some (.int .i64 y)) (h2 : w.cell? ⟨b, 2, none⟩ = some (.int .i64 z)) (h3 : w.cell? ⟨b, 3, none⟩ = some (.int .i64 u)) :
    Calls Try.prog 23 #[.slice (some ⟨b, 0, none⟩) 4 4] w fun e w' => e = .returned (.int .i64 (firE [x, y, z, u])) ∧ w = w' := by
  refine cFirst_any [x, y, z, u] b 0 _ (by simp) (by simp) ?_
  intro k hk
  have : k = 0 ∨ k = 1 ∨ k = 2 ∨ k = 3 := by simp at hk; omega
  rcases this with rfl | rfl | rfl | rfl <;> simp [*]
end Go.Proofs.Ytfaodlcfjhnhbaa

/- What tissue.checkCompartment and the specification's CheckCompartment return. -/
namespace Go.Proofs.Ytfaodlcfjhnhbaa
open Go.ChangeShapes Go.WideShapes Go.ChangeAt Go.RowKit
set_option linter.unusedVariables false
set_option linter.unusedSimpArgs false

/-- The error of a compartment: half times of nitrogen and helium, base, slope. -/
def cmpE (n h b s : Int) : Int := firE [rngE n 1 100000, rngE h 1 100000, rngE b 0 10000, rngE s 1000 10000]
set_option maxHeartbeats 1000000 in
theorem checkCompartment_any (n h b s : Int) (w : World) :
    Calls Try.prog 58 #[.agg #[.int .i64 n, .int .i64 h, .int .i64 b, .int .i64 s]] w fun e w' => e = .returned (.int .i64 (cmpE n h b s)) ∧ Below w.heap.size w w' := by
  go_enter Try.func58, Try.ntmps58
  go_wp2
  go_region_held3 (fun w' => w'.cell? ⟨w.heap.size, 0, none⟩ = some (.int .i64 n) ∧ w'.cell? ⟨w.heap.size, 1, none⟩ = some (.int .i64 h) ∧ w'.cell? ⟨w.heap.size, 2, none⟩ = some (.int .i64 b) ∧ w'.cell? ⟨w.heap.size, 3, none⟩ = some (.int .i64 s)) (simp [go_sem, World.cell?_alloc_past])
    (first
      | (go_at_call 35; ((with_reducible refine (cRange_any _ _ _ _).mono ?_)); rintro e w' ⟨rfl, rfl⟩)
      | (go_at_call 23; ((with_reducible refine (cFirst4c (rngE n 1 100000) (rngE h 1 100000) (rngE b 0 10000) (rngE s 1000 10000) _ _ (by simp [go_sem]) (by simp [go_sem]) (by simp [go_sem]) (by simp [go_sem])).mono ?_)); rintro e w' ⟨rfl, rfl⟩))
  go_wp2
  go_ret
  exact ⟨rfl, (by (repeat (first | (with_reducible refine Below.drew ?_) | (with_reducible refine below_drewN ?_ _) | (with_reducible refine Below.alloc ?_ (by first | omega | (simp; done) | (simp; omega) | (simp at *; omega)) _) | (with_reducible refine Below.setCell ?_ (by first | omega | (simp; done) | (simp; omega) | (simp at *; omega)) _) | (with_reducible exact Below.refl _ _) | (with_reducible assumption) | (with_reducible refine Below.trans ?_ (Below.mono (by assumption) (by first | omega | (simp; done) | (simp; omega) | (simp at *; omega)))))))⟩
end Go.Proofs.Ytfaodlcfjhnhbaa

/- Compartments and loads as lists in memory; the first error of a list. -/
namespace Go.Proofs.Ytfaodlcfjhnhbaa
open Go.ChangeShapes Go.WideShapes Go.ChangeAt Go.RowKit
set_option linter.unusedVariables false
set_option linter.unusedSimpArgs false

/-- A load: nitrogen from a to b, helium from c to d. -/
structure Ld where
  a : Int
  b : Int
  c : Int
  d : Int
instance : Inhabited Ld := ⟨⟨0, 0, 0, 0⟩⟩
/-- A compartment: half times of nitrogen and helium, base, slope. -/
structure Cm where
  n : Int
  h : Int
  b : Int
  s : Int
instance : Inhabited Cm := ⟨⟨0, 0, 0, 0⟩⟩
def LdAt (w : World) (b off : Nat) (L : List Ld) : Prop :=
  ∀ k, (hk : k < L.length) → w.cell? ⟨b, off + k * 4, none⟩ = some (.int .i64 (L[k]).a) ∧ w.cell? ⟨b, off + k * 4 + 1, none⟩ = some (.int .i64 (L[k]).b) ∧ w.cell? ⟨b, off + k * 4 + 2, none⟩ = some (.int .i64 (L[k]).c) ∧ w.cell? ⟨b, off + k * 4 + 3, none⟩ = some (.int .i64 (L[k]).d)
def CmAt (w : World) (b off : Nat) (T : List Cm) : Prop :=
  ∀ k, (hk : k < T.length) → w.cell? ⟨b, off + k * 4, none⟩ = some (.int .i64 (T[k]).n) ∧ w.cell? ⟨b, off + k * 4 + 1, none⟩ = some (.int .i64 (T[k]).h) ∧ w.cell? ⟨b, off + k * 4 + 2, none⟩ = some (.int .i64 (T[k]).b) ∧ w.cell? ⟨b, off + k * 4 + 3, none⟩ = some (.int .i64 (T[k]).s)
theorem LdAt.below {w w' : World} {b off : Nat} {L : List Ld} (h : LdAt w b off L) {n : Nat} (hb : Below n w w') (hlt : b < n) : LdAt w' b off L := by
  intro k hk
  obtain ⟨h1, h2, h3, h4⟩ := h k hk
  have hc : ∀ o, w'.cell? ⟨b, o, none⟩ = w.cell? ⟨b, o, none⟩ := fun o => hb.cell (p := ⟨b, o, none⟩) hlt
  exact ⟨by rw [hc]; exact h1, by rw [hc]; exact h2, by rw [hc]; exact h3, by rw [hc]; exact h4⟩
theorem CmAt.below {w w' : World} {b off : Nat} {L : List Cm} (h : CmAt w b off L) {n : Nat} (hb : Below n w w') (hlt : b < n) : CmAt w' b off L := by
  intro k hk
  obtain ⟨h1, h2, h3, h4⟩ := h k hk
  have hc : ∀ o, w'.cell? ⟨b, o, none⟩ = w.cell? ⟨b, o, none⟩ := fun o => hb.cell (p := ⟨b, o, none⟩) hlt
  exact ⟨by rw [hc]; exact h1, by rw [hc]; exact h2, by rw [hc]; exact h3, by rw [hc]; exact h4⟩
/-- A slice that holds a list of loads: nil, or cells of an old block. -/
def SlLd (w : World) (A : Option Addr) (L : List Ld) : Prop := L = [] ∨ ∃ b off, A = some ⟨b, off, none⟩ ∧ b < w.heap.size ∧ LdAt w b off L
def SlCm (w : World) (A : Option Addr) (L : List Cm) : Prop := L = [] ∨ ∃ b off, A = some ⟨b, off, none⟩ ∧ b < w.heap.size ∧ CmAt w b off L
theorem SlLd.below {w w' : World} {A : Option Addr} {L : List Ld} (h : SlLd w A L) (hb : Below w.heap.size w w') : SlLd w' A L := by
  rcases h with h | ⟨b, off, rfl, hlt, h⟩
  · exact Or.inl h
  · exact Or.inr ⟨b, off, rfl, Nat.lt_of_lt_of_le hlt hb.size, h.below hb hlt⟩
theorem SlCm.below {w w' : World} {A : Option Addr} {L : List Cm} (h : SlCm w A L) (hb : Below w.heap.size w w') : SlCm w' A L := by
  rcases h with h | ⟨b, off, rfl, hlt, h⟩
  · exact Or.inl h
  · exact Or.inr ⟨b, off, rfl, Nat.lt_of_lt_of_le hlt hb.size, h.below hb hlt⟩
theorem SlLd.any {w w' : World} {A : Option Addr} {L : List Ld} {n : Nat} (h : SlLd w A L) (hb : Below n w w') (hn : w.heap.size ≤ n) : SlLd w' A L := h.below (hb.mono hn)
theorem SlCm.any {w w' : World} {A : Option Addr} {L : List Cm} {n : Nat} (h : SlCm w A L) (hb : Below n w w') (hn : w.heap.size ≤ n) : SlCm w' A L := h.below (hb.mono hn)

/-- The first error of a list. -/
def fstE {α : Type} (f : α → Int) : List α → Int
  | [] => 0
  | p :: r => if f p = 0 then fstE f r else f p
theorem fstE_z {α : Type} {f : α → Int} {P : List α} (h : ∀ k, (hk : k < P.length) → f P[k] = 0) : fstE f P = 0 := by
  induction P with
  | nil => rfl
  | cons p r ih =>
    unfold fstE
    rw [if_pos (show f p = 0 from h 0 (by simp))]
    exact ih fun k hk => h (k + 1) (by simpa using hk)
theorem fstE_at {α : Type} {f : α → Int} {P : List α} {k : Nat} (hk : k < P.length) (hz : ∀ j, (hj : j < k) → f (P[j]'(by omega)) = 0) (hn : f P[k] ≠ 0) : fstE f P = f P[k] := by
  induction P generalizing k with
  | nil => simp at hk
  | cons p r ih =>
    unfold fstE
    cases k with
    | zero => exact if_neg hn
    | succ k =>
      rw [if_pos (show f p = 0 from hz 0 (by omega))]
      exact ih (by simpa using hk) (fun j hj => hz (j + 1) (by omega)) hn
theorem fstE_all {α : Type} {f : α → Int} {P : List α} (h : fstE f P = 0) : ∀ k, (hk : k < P.length) → f P[k] = 0 := by
  induction P with
  | nil => intro k hk; simp at hk
  | cons p r ih =>
    unfold fstE at h
    by_cases h0 : f p = 0
    · rw [if_pos h0] at h
      intro k hk
      cases k with
      | zero => exact h0
      | succ k => exact ih h k (by simpa using hk)
    · rw [if_neg h0] at h; exact absurd h h0
theorem neI_f {a b : Int} (h : a = b) : (a != b) = false := by subst h; simp
theorem neI_t {a b : Int} (h : a ≠ b) : (a != b) = true := by simpa using h
/-- The error of a load. -/
def lodE (a b c d : Int) : Int := if inB a 0 100000000 = true then if inB b 0 100000000 = true then if inB c 0 100000000 = true then if inB d 0 100000000 = true then if b < a then 9 else if d < c then 9 else 0 else 2 else 2 else 2 else 2
def loadE (x : Ld) : Int := lodE x.a x.b x.c x.d
def compE (x : Cm) : Int := cmpE x.n x.h x.b x.s
/-- The error of a table; of a table with loads. -/
def tabE (T : List Cm) : Int := if inB T.length 1 16 = true then fstE compE T else 10
def loadsE (T : List Cm) (L : List Ld) : Int := if tabE T = 0 then if L.length = T.length then fstE loadE L else 10 else tabE T
theorem ez2 (e : Int) : (Hid (e = 0) ∧ (e != 0) = false) ∨ (Hid (e ≠ 0) ∧ (e != 0) = true) := by
  by_cases h : e = 0
  · exact Or.inl ⟨h, by simp [h]⟩
  · exact Or.inr ⟨h, by simpa using h⟩
theorem lodE_1 {a b c d : Int} (h1 : inB a 0 100000000 = false) : lodE a b c d = 2 := by unfold lodE; rw [if_neg (by rw [h1]; exact Bool.false_ne_true)]
theorem lodE_2 {a b c d : Int} (h1 : inB a 0 100000000 = true) (h2 : inB b 0 100000000 = false) : lodE a b c d = 2 := by unfold lodE; rw [if_pos h1, if_neg (by rw [h2]; exact Bool.false_ne_true)]
theorem lodE_3 {a b c d : Int} (h1 : inB a 0 100000000 = true) (h2 : inB b 0 100000000 = true) (h3 : inB c 0 100000000 = false) : lodE a b c d = 2 := by unfold lodE; rw [if_pos h1, if_pos h2, if_neg (by rw [h3]; exact Bool.false_ne_true)]
theorem lodE_4 {a b c d : Int} (h1 : inB a 0 100000000 = true) (h2 : inB b 0 100000000 = true) (h3 : inB c 0 100000000 = true) (h4 : inB d 0 100000000 = false) : lodE a b c d = 2 := by unfold lodE; rw [if_pos h1, if_pos h2, if_pos h3, if_neg (by rw [h4]; exact Bool.false_ne_true)]
theorem lodE_5 {a b c d : Int} (h1 : inB a 0 100000000 = true) (h2 : inB b 0 100000000 = true) (h3 : inB c 0 100000000 = true) (h4 : inB d 0 100000000 = true) (h5 : b < a) : lodE a b c d = 9 := by unfold lodE; rw [if_pos h1, if_pos h2, if_pos h3, if_pos h4, if_pos h5]
theorem lodE_6 {a b c d : Int} (h1 : inB a 0 100000000 = true) (h2 : inB b 0 100000000 = true) (h3 : inB c 0 100000000 = true) (h4 : inB d 0 100000000 = true) (h5 : ¬ b < a) (h6 : d < c) : lodE a b c d = 9 := by unfold lodE; rw [if_pos h1, if_pos h2, if_pos h3, if_pos h4, if_neg h5, if_pos h6]
theorem lodE_7 {a b c d : Int} (h1 : inB a 0 100000000 = true) (h2 : inB b 0 100000000 = true) (h3 : inB c 0 100000000 = true) (h4 : inB d 0 100000000 = true) (h5 : ¬ b < a) (h6 : ¬ d < c) : lodE a b c d = 0 := by unfold lodE; rw [if_pos h1, if_pos h2, if_pos h3, if_pos h4, if_neg h5, if_neg h6]
theorem lodE_ok {a b c d : Int} (h : lodE a b c d = 0) : (0 ≤ a ∧ a ≤ b ∧ b ≤ 100000000) ∧ (0 ≤ c ∧ c ≤ d ∧ d ≤ 100000000) := by
  unfold lodE at h
  rcases inB_cases a 0 100000000 with h1 | h1 <;> rcases inB_cases b 0 100000000 with h2 | h2 <;> rcases inB_cases c 0 100000000 with h3 | h3 <;> rcases inB_cases d 0 100000000 with h4 | h4 <;> simp only [h1, h2, h3, h4] at h <;> simp at h
  rw [inB_iff] at h1 h2 h3 h4
  omega
end Go.Proofs.Ytfaodlcfjhnhbaa
