import Derived.Test.YtojaompfffpofaaGreatZALeaf
import Derived.Outline
import Derived.ProofKit
import Derived.OpenShut
import Derived.Lib.SmallJoins
import Derived.Deep.Slices
import Derived.Deep.Strs
import Derived.Maps.AppendAt
import Derived.OwnWalk
namespace Go.Proofs.YtojaompfffpofaaGreat
open Go.ChangeShapes Go.WideShapes Go.ChangeAt Go.RowKit
set_option linter.unusedVariables false
set_option linter.unusedSimpArgs false

theorem cWithin_any (n a b : Int) (w : World) :
    Calls Tryz.prog 126 #[.int .i64 n, .int .i64 a, .int .i64 b] w fun e w' => e = .returned (.bool (inB n a b)) ∧ w = w' := by
  by_cases h1 : a ≤ n
  · by_cases h2 : n ≤ b
    · have h3 := inB_true h1 h2
      go_enter Tryz.func126, Tryz.ntmps126
      go_wp2
      go_ret
      exact ⟨by first | rfl | exact ret_bool h3.symm, rfl⟩
    · have h3 := inB_f2 (a := a) h2
      go_enter Tryz.func126, Tryz.ntmps126
      go_wp2
      go_ret
      exact ⟨by first | rfl | exact ret_bool h3.symm, rfl⟩
  · have h3 := inB_f1 (b := b) h1
    go_enter Tryz.func126, Tryz.ntmps126
    go_wp2
    go_ret
    exact ⟨by first | rfl | exact ret_bool h3.symm, rfl⟩
theorem cRange_any (n a b : Int) (w : World) :
    Calls Tryz.prog 87 #[.int .i64 n, .int .i64 a, .int .i64 b] w fun e w' => e = .returned (.int .i64 (rngE n a b)) ∧ w = w' := by
  rcases inB_cases n a b with h | h
  · have h3 := rngE_t h
    go_enter Tryz.func87, Tryz.ntmps87
    go_wp2_with (go_at_call 126; refine (cWithin_any _ _ _ _).mono ?_; rintro e w' ⟨rfl, rfl⟩)
    go_ret
    exact ⟨by first | rfl | exact ret_int h3.symm, rfl⟩
  · have h3 := rngE_f h
    go_enter Tryz.func87, Tryz.ntmps87
    go_wp2_with (go_at_call 126; refine (cWithin_any _ _ _ _).mono ?_; rintro e w' ⟨rfl, rfl⟩)
    go_ret
    exact ⟨by first | rfl | exact ret_int h3.symm, rfl⟩
theorem cFirst_any (l : List Int) (b off : Nat) (w : World) (hl : l.length ≤ 1000) (h0 : 0 < l.length)
    (hc : ∀ k, k < l.length → w.cell? ⟨b, off + k, none⟩ = some (.int .i64 (l.getD k 0))) :
    Calls Tryz.prog 64 #[.slice (some ⟨b, off, none⟩) l.length l.length] w fun e w' => e = .returned (.int .i64 (firE l)) ∧ w = w' := by
  have HC := Lib.hid hc
  clear hc
  go_enter Tryz.func64, Tryz.ntmps64
  go_wp2
  go_loop [7] (fun i => ∃ k : Nat, k ≤ l.length ∧ i = .int .i64 k ∧ Hid (∀ j, j < k → l.getD j 0 = 0)) (fun i => l.length - (intOf i).toNat)
  case atStart => exact ⟨0, by omega, rfl, fun j hj => by omega⟩
  case round =>
    obtain ⟨k, hk, rfl, hz⟩ := hrel
    by_cases hlt : k < l.length
    · have hcell := HC.out k hlt
      by_cases hn : l.getD k 0 = 0
      · rw [hn] at hcell
        go_wp2
        go_round
        case rel => exact ⟨k + 1, by omega, by go_num, fun j hj => by
          by_cases e : j = k
          · rw [e]; exact hn
          · exact hz.out j (by omega)⟩
        case measure => simp [intOf]; omega
      · have hr := firE_at hlt hz.out hn
        have hb : (l.getD k 0 != 0) = true := by simp; simpa using hn
        generalize hg : l.getD k 0 = x at *
        clear hg
        go_wp2
        go_ret
        exact ⟨by first | rfl | exact ret_int hr.symm, rfl⟩
    · have hkk : k = l.length := by omega
      have hr : firE l = 0 := firE_z (fun x hx => by
        obtain ⟨j, hj, rfl⟩ := List.getElem_of_mem hx
        have := hz.out j (by omega)
        simpa [hj] using this)
      clear hk
      go_wp2
      go_ret
      exact ⟨by first | rfl | exact ret_int hr.symm, rfl⟩
end Go.Proofs.YtojaompfffpofaaGreat

namespace Go.Proofs.YtojaompfffpofaaGreat
open Go.ChangeShapes Go.WideShapes Go.ChangeAt Go.RowKit Go.Joins Go.Deep
set_option linter.unusedVariables false
set_option linter.unusedSimpArgs false
section
variable {α : Type}
/-- A list of records of n cells each lies in a block, from a cell on. -/
def RowsAt (f : α → List Value) (n : Nat) (w : World) (b off : Nat) (L : List α) : Prop :=
  ∀ k, (hk : k < L.length) → ∀ i, i < n → w.cell? ⟨b, off + k * n + i, none⟩ = (f L[k])[i]?
/-- A slice that holds a list of records. -/
def SlRows (f : α → List Value) (n : Nat) (w : World) (A : Option Addr) (L : List α) : Prop := L = [] ∨ ∃ b off, A = some ⟨b, off, none⟩ ∧ b < w.heap.size ∧ RowsAt f n w b off L
theorem RowsAt.below {f : α → List Value} {n : Nat} {w w' : World} {b off : Nat} {L : List α} (h : RowsAt f n w b off L) {N : Nat} (hb : Below N w w') (hlt : b < N) : RowsAt f n w' b off L := by
  intro k hk i hi
  rw [← h k hk i hi]
  exact hb.cell (p := ⟨b, _, none⟩) hlt
theorem SlRows.below {f : α → List Value} {n : Nat} {w w' : World} {A : Option Addr} {L : List α} (h : SlRows f n w A L) (hb : Below w.heap.size w w') : SlRows f n w' A L := by
  rcases h with h | ⟨b, off, rfl, hlt, h⟩
  · exact Or.inl h
  · exact Or.inr ⟨b, off, rfl, Nat.lt_of_lt_of_le hlt hb.size, h.below hb hlt⟩
theorem SlRows.any {f : α → List Value} {n : Nat} {w w' : World} {A : Option Addr} {L : List α} {N : Nat} (h : SlRows f n w A L) (hb : Below N w w') (hn : w.heap.size ≤ N) : SlRows f n w' A L := h.below (hb.mono hn)
/-- A part of a list lies where the list lies. -/
theorem RowsAt.part {f : α → List Value} {n : Nat} {w : World} {b off : Nat} {L : List α} (h : RowsAt f n w b off L) (m : Nat) : RowsAt f n w b off (L.take m) := by
  intro k hk i hi
  have hk' : k < L.length := by simp at hk; omega
  rw [h k hk' i hi]; simp
theorem SlRows.part {f : α → List Value} {n : Nat} {w : World} {A : Option Addr} {L : List α} (h : SlRows f n w A L) (m : Nat) : SlRows f n w A (L.take m) := by
  rcases h with h | ⟨b, off, rfl, hlt, h⟩
  · exact Or.inl (by rw [h]; simp)
  · exact Or.inr ⟨b, off, rfl, hlt, h.part m⟩
def rowsV (f : α → List Value) (L : List α) : List Value := L.flatMap f
theorem rowsV_len {f : α → List Value} {n : Nat} (hf : ∀ g, (f g).length = n) (L : List α) : (rowsV f L).length = L.length * n := by
  induction L with
  | nil => simp [rowsV]
  | cons g r ih =>
    show (f g ++ rowsV f r).length = _
    rw [List.length_append, ih, hf]; simp [Nat.add_mul]; omega
theorem rowsV_at {f : α → List Value} {n : Nat} (hf : ∀ g, (f g).length = n) {L : List α} {k : Nat} (hk : k < L.length) {i : Nat} (hi : i < n) : (rowsV f L)[k * n + i]? = (f L[k])[i]? := by
  induction L generalizing k with
  | nil => simp at hk
  | cons g r ih =>
    have e : rowsV f (g :: r) = f g ++ rowsV f r := rfl
    rw [e]
    cases k with
    | zero => rw [List.getElem?_append_left (by rw [hf]; omega)]; simp
    | succ k =>
      rw [List.getElem?_append_right (by rw [hf, Nat.add_mul]; omega), hf, show (k + 1) * n + i - n = k * n + i by rw [Nat.add_mul]; omega, ih (by simpa using hk)]
      simp
theorem addNR (c off j : Nat) : (⟨c, off, none⟩ : Addr).add j = ⟨c, off + j, none⟩ := by
  unfold Addr.add; split
  · rename_i hz; rw [hz]; rfl
  · rfl
theorem rowsV_cells {f : α → List Value} {n : Nat} (hf : ∀ g, (f g).length = n) (hn : 0 < n) {w : World} {c off : Nat} {L : List α} (h : RowsAt f n w c off L) : ∀ j u, (rowsV f L)[j]? = some u → w.cell? ((⟨c, off, none⟩ : Addr).add j) = some u := by
  intro j u hj
  have hl : j < (rowsV f L).length := (List.getElem?_eq_some_iff.1 hj).1
  rw [rowsV_len hf] at hl
  have hk : j / n < L.length := Nat.div_lt_of_lt_mul (by rw [Nat.mul_comm]; exact hl)
  have hm : j % n < n := Nat.mod_lt _ hn
  have e : j / n * n + j % n = j := by rw [Nat.mul_comm]; exact Nat.div_add_mod j n
  rw [addNR]
  have h1 := h (j / n) hk (j % n) hm
  rw [Nat.add_assoc, e] at h1
  have h2 := rowsV_at hf hk hm
  rw [e] at h2
  rw [h1, ← h2, hj]
theorem rows_one {f : α → List Value} (h1 : ∀ g, ∀ u ∈ f g, u.oneCell' = true) (L : List α) : ∀ u ∈ rowsV f L, u.oneCell' = true := by
  intro u hu
  obtain ⟨g, _, hg⟩ := List.mem_flatMap.1 hu
  exact h1 g u hg
theorem SlRows_own {f : α → List Value} {n : Nat} (hf : ∀ g, (f g).length = n) {w : World} {base : Nat} {e : TypeId} {v : Value} {L : List α} (h : w.ownsRow base e n v L.length (rowsV f L)) : ∃ A cap, v = .slice A L.length cap ∧ SlRows f n w A L ∧ (∀ ad, A = some ad → base ≤ ad.block) ∧ (A = none → cap = 0) ∧ L.length ≤ cap ∧ cap ≤ maxLen := by
  rcases h.2 with ⟨rfl, h0⟩ | ⟨g, cap, cur, rfl, hb, hg, hle, hcap, hs, ht⟩
  · refine ⟨none, 0, by rw [h0], Or.inl (List.eq_nil_of_length_eq_zero h0), ?_, fun _ => rfl, by omega, Nat.zero_le _⟩
    intro ad hh
    exact absurd hh (by simp)
  · refine ⟨some ⟨g, 0, none⟩, cap, rfl, Or.inr ⟨g, 0, rfl, (Array.getElem?_eq_some_iff.1 hg).1, ?_⟩, (fun _ h => by cases h; exact hb), (fun h => by cases h), hle, hcap⟩
    intro k hk i hi
    have c := World.ownsRow.cells h (g := g) rfl
    have hlt : i < (f L[k]).length := by rw [hf]; exact hi
    have q := rowsV_at hf hk hi
    rw [List.getElem?_eq_getElem hlt] at q
    have r := c _ _ q
    rw [addNR] at r
    rw [show 0 + k * n + i = 0 + (k * n + i) by omega, r, List.getElem?_eq_getElem hlt]
end
end Go.Proofs.YtojaompfffpofaaGreat
