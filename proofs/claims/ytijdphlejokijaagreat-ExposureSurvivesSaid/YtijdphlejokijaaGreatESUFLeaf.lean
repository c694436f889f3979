import Derived.Test.YtijdphlejokijaaGreatESUBlk
import Derived.Test.YtijdphlejokijaaGreatESULeaf
import Derived.Test.YtijdphlejokijaaGreatESUApg
import Derived.Outline
namespace Go.Proofs.YtijdphlejokijaaGreat
open Go.ChangeShapes Go.WideShapes Go.ChangeAt Go.RowKit
set_option linter.unusedVariables false
set_option linter.unusedSimpArgs false
structure Ga where
  o : Int
  h : Int
instance : Inhabited Ga := ⟨⟨0, 0⟩⟩
def gaV (x : Ga) : List Value := [.int .i64 x.o, .int .i64 x.h]
structure Le where
  s : Int
  d : Int
  g : Int
instance : Inhabited Le := ⟨⟨0, 0, 0⟩⟩
def leV (x : Le) : List Value := [.int .i64 x.s, .int .i64 x.d, .int .i64 x.g]
structure Pt where
  s : Int
  d : Int
instance : Inhabited Pt := ⟨⟨0, 0⟩⟩
def ptV (x : Pt) : List Value := [.int .i64 x.s, .int .i64 x.d]
structure Ox where
  f : Int
  r : Int
instance : Inhabited Ox := ⟨⟨0, 0⟩⟩
def oxV (x : Ox) : List Value := [.int .i64 x.f, .int .i64 x.r]
theorem ga_at {w : World} {b off : Nat} {L : List Ga} (h : RowsAt gaV 2 w b off L) {k : Nat} (hk : k < L.length) : w.cell? ⟨b, off + k * 2, none⟩ = some (.int .i64 L[k].o) ∧ w.cell? ⟨b, off + k * 2 + 1, none⟩ = some (.int .i64 L[k].h) := ⟨h k hk 0 (by omega), h k hk 1 (by omega)⟩
theorem le_at {w : World} {b off : Nat} {L : List Le} (h : RowsAt leV 3 w b off L) {k : Nat} (hk : k < L.length) : w.cell? ⟨b, off + k * 3, none⟩ = some (.int .i64 L[k].s) ∧ w.cell? ⟨b, off + k * 3 + 1, none⟩ = some (.int .i64 L[k].d) ∧ w.cell? ⟨b, off + k * 3 + 2, none⟩ = some (.int .i64 L[k].g) := ⟨h k hk 0 (by omega), h k hk 1 (by omega), h k hk 2 (by omega)⟩
theorem pt_at {w : World} {b off : Nat} {L : List Pt} (h : RowsAt ptV 2 w b off L) {k : Nat} (hk : k < L.length) : w.cell? ⟨b, off + k * 2, none⟩ = some (.int .i64 L[k].s) ∧ w.cell? ⟨b, off + k * 2 + 1, none⟩ = some (.int .i64 L[k].d) := ⟨h k hk 0 (by omega), h k hk 1 (by omega)⟩
theorem ox_at {w : World} {b off : Nat} {L : List Ox} (h : RowsAt oxV 2 w b off L) {k : Nat} (hk : k < L.length) : w.cell? ⟨b, off + k * 2, none⟩ = some (.int .i64 L[k].f) ∧ w.cell? ⟨b, off + k * 2 + 1, none⟩ = some (.int .i64 L[k].r) := ⟨h k hk 0 (by omega), h k hk 1 (by omega)⟩
theorem gaV_one : ∀ g, ∀ u ∈ gaV g, u.oneCell' = true := by
  intro g u hu; simp [gaV] at hu; rcases hu with rfl | rfl <;> rfl
theorem leV_one : ∀ g, ∀ u ∈ leV g, u.oneCell' = true := by
  intro g u hu; simp [leV] at hu; rcases hu with rfl | rfl | rfl <;> rfl
theorem oxV_one : ∀ g, ∀ u ∈ oxV g, u.oneCell' = true := by
  intro g u hu; simp [oxV] at hu; rcases hu with rfl | rfl <;> rfl
/-- Where the elements of a slice that is not empty lie. -/
theorem SlRows.at' {α : Type} {f : α → List Value} {n : Nat} {w : World} {A : Option Addr} {L : List α} (h : SlRows f n w A L) {k : Nat} (hk : k < L.length) : ∃ b o, A = some ⟨b, o, none⟩ ∧ b < w.heap.size ∧ RowsAt f n w b o L := by
  rcases h with h | h
  · rw [h] at hk; simp at hk
  · exact h
/-- The first error of a list. -/
def fstI {α : Type} (f : α → Int) : List α → Int
  | [] => 0
  | x :: l => if f x = 0 then fstI f l else f x
theorem fstI_stop {α : Type} {f : α → Int} : ∀ {L : List α} {k : Nat} (hk : k < L.length), (∀ j, (hj : j < k) → f (L[j]'(by omega)) = 0) → f L[k] ≠ 0 → fstI f L = f L[k]
  | [], k, hk, _, _ => absurd hk (by simp)
  | x :: l, 0, _, _, h => by
    show (if f x = 0 then _ else f x) = f x
    exact if_neg h
  | x :: l, k + 1, hk, h0, h => by
    have this : f x = 0 := h0 0 (by omega)
    show (if f x = 0 then fstI f l else f x) = f (l[k]'(by simpa using hk))
    rw [if_pos this]
    exact fstI_stop (by simpa using hk) (fun j hj => h0 (j + 1) (by omega)) h
theorem fstI_all {α : Type} {f : α → Int} : ∀ {L : List α}, (∀ j, (hj : j < L.length) → f L[j] = 0) → fstI f L = 0
  | [], _ => rfl
  | x :: l, h => by
    have this : f x = 0 := h 0 (by simp)
    show (if f x = 0 then fstI f l else f x) = 0
    rw [if_pos this]
    exact fstI_all fun j hj => h (j + 1) (by simpa using hj)
theorem fstI_ok {α : Type} {f : α → Int} : ∀ {L : List α}, fstI f L = 0 → ∀ x ∈ L, f x = 0
  | [], _, x, hx => absurd hx (by simp)
  | y :: l, h, x, hx => by
    unfold fstI at h
    by_cases e : f y = 0
    · rw [if_pos e] at h
      rcases List.mem_cons.1 hx with rfl | hx
      · exact e
      · exact fstI_ok h x hx
    · rw [if_neg e] at h; exact absurd h e
end Go.Proofs.YtijdphlejokijaaGreat

namespace Go.Proofs.YtijdphlejokijaaGreat
open Go.ChangeShapes Go.WideShapes Go.ChangeAt Go.RowKit
set_option linter.unusedVariables false
set_option linter.unusedSimpArgs false

theorem cWithin_any (n a b : Int) (w : World) :
    Calls Tryz.prog 84 #[.int .i64 n, .int .i64 a, .int .i64 b] w fun e w' => e = .returned (.bool (inB n a b)) ∧ w = w' := by
  by_cases h1 : a ≤ n
  · by_cases h2 : n ≤ b
    · have h3 := inB_true h1 h2
      go_enter Tryz.func84, Tryz.ntmps84
      go_wp2
      go_ret
      exact ⟨by first | rfl | exact ret_bool h3.symm, rfl⟩
    · have h3 := inB_f2 (a := a) h2
      go_enter Tryz.func84, Tryz.ntmps84
      go_wp2
      go_ret
      exact ⟨by first | rfl | exact ret_bool h3.symm, rfl⟩
  · have h3 := inB_f1 (b := b) h1
    go_enter Tryz.func84, Tryz.ntmps84
    go_wp2
    go_ret
    exact ⟨by first | rfl | exact ret_bool h3.symm, rfl⟩
theorem cRange_any (n a b : Int) (w : World) :
    Calls Tryz.prog 58 #[.int .i64 n, .int .i64 a, .int .i64 b] w fun e w' => e = .returned (.int .i64 (rngE n a b)) ∧ w = w' := by
  rcases inB_cases n a b with h | h
  · have h3 := rngE_t h
    go_enter Tryz.func58, Tryz.ntmps58
    go_wp2_with (go_at_call 84; refine (cWithin_any _ _ _ _).mono ?_; rintro e w' ⟨rfl, rfl⟩)
    go_ret
    exact ⟨by first | rfl | exact ret_int h3.symm, rfl⟩
  · have h3 := rngE_f h
    go_enter Tryz.func58, Tryz.ntmps58
    go_wp2_with (go_at_call 84; refine (cWithin_any _ _ _ _).mono ?_; rintro e w' ⟨rfl, rfl⟩)
    go_ret
    exact ⟨by first | rfl | exact ret_int h3.symm, rfl⟩
theorem cFirst_any (l : List Int) (b off : Nat) (w : World) (hl : l.length ≤ 1000) (h0 : 0 < l.length)
    (hc : ∀ k, k < l.length → w.cell? ⟨b, off + k, none⟩ = some (.int .i64 (l.getD k 0))) :
    Calls Tryz.prog 31 #[.slice (some ⟨b, off, none⟩) l.length l.length] w fun e w' => e = .returned (.int .i64 (firE l)) ∧ w = w' := by
  have HC := Lib.hid hc
  clear hc
  go_enter Tryz.func31, Tryz.ntmps31
  go_wp2
  go_loop [7] (fun i => ∃ k : Nat, k ≤ l.length ∧ i = .int .i64 k ∧ Hid (∀ j, j < k → l.getD j 0 = 0)) (fun i => l.length - (intOf i).toNat)
  case atStart => exact ⟨0, by omega, rfl, fun j hj => by omega⟩
  case round =>
    obtain ⟨k, hk, rfl, hz⟩ := hrel
    by_cases hlt : k < l.length
    · have hcell := HC.out k hlt
      by_cases hn : l.getD k 0 = 0
      · rw [hn] at hcell
        go_wp2
        go_round
        case rel => exact ⟨k + 1, by omega, by go_num, fun j hj => by
          by_cases e : j = k
          · rw [e]; exact hn
          · exact hz.out j (by omega)⟩
        case measure => simp [intOf]; omega
      · have hr := firE_at hlt hz.out hn
        have hb : (l.getD k 0 != 0) = true := by simp; simpa using hn
        generalize hg : l.getD k 0 = x at *
        clear hg
        go_wp2
        go_ret
        exact ⟨by first | rfl | exact ret_int hr.symm, rfl⟩
    · have hkk : k = l.length := by omega
      have hr : firE l = 0 := firE_z (fun x hx => by
        obtain ⟨j, hj, rfl⟩ := List.getElem_of_mem hx
        have := hz.out j (by omega)
        simpa [hj] using this)
      clear hk
      go_wp2
      go_ret
      exact ⟨by first | rfl | exact ret_int hr.symm, rfl⟩
end Go.Proofs.YtijdphlejokijaaGreat
