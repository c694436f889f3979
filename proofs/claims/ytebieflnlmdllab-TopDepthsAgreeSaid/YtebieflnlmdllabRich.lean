/- What gas.checkGases and the comparison in gas.Richest return. -/
import Derived.Test.YtebieflnlmdllabBest
import Derived.Deep.DrawnRows
import Derived.Outline
namespace Go.Proofs.Ytebieflnlmdllab
open Go.ChangeShapes Go.WideShapes Go.ChangeAt Go.RowKit
set_option linter.unusedVariables false
set_option linter.unusedSimpArgs false
attribute [local go_sem ↓] Go.wp_at_zero Go.wp_at_succ

/-- A gas of a list: oxygen, helium. -/
structure Gs where
  o : Int
  h : Int
instance : Inhabited Gs := ⟨⟨0, 0⟩⟩
def GasesAt (w : World) (b off : Nat) (P : List Gs) : Prop :=
  ∀ k, (hk : k < P.length) → w.cell? ⟨b, off + k * 2, none⟩ = some (.int .i64 (P[k]).o) ∧ w.cell? ⟨b, off + k * 2 + 1, none⟩ = some (.int .i64 (P[k]).h)
theorem GasesAt.below {w w' : World} {b off : Nat} {P : List Gs} (h : GasesAt w b off P) (hb : Below w.heap.size w w') (hlt : b < w.heap.size) : GasesAt w' b off P := by
  intro k hk
  obtain ⟨h1, h2⟩ := h k hk
  obtain ⟨hc, _⟩ := bcell hb
  exact ⟨by rw [hc _ _ hlt]; exact h1, by rw [hc _ _ hlt]; exact h2⟩
/-- A slice that reads as a list of gases (an empty one may lie anywhere). -/
def SlAt (w : World) (A : Option Addr) (P : List Gs) : Prop := P = [] ∨ ∃ b off, A = some ⟨b, off, none⟩ ∧ b < w.heap.size ∧ GasesAt w b off P
theorem SlAt.below {w w' : World} {A : Option Addr} {P : List Gs} (h : SlAt w A P) (hb : Below w.heap.size w w') : SlAt w' A P := by
  rcases h with rfl | ⟨b, off, rfl, hlt, hP⟩
  · exact Or.inl rfl
  · exact Or.inr ⟨b, off, rfl, Nat.lt_of_lt_of_le hlt hb.size, hP.below hb hlt⟩
def gasesE1 : List Gs → Int
  | [] => 0
  | p :: r => if gasE p.o p.h = 0 then gasesE1 r else gasE p.o p.h
def gasesE (P : List Gs) : Int := if 8 < P.length then 8 else gasesE1 P
theorem gasesE1_z {P : List Gs} (h : ∀ k, (hk : k < P.length) → gasE P[k].o P[k].h = 0) : gasesE1 P = 0 := by
  induction P with
  | nil => rfl
  | cons p r ih =>
    unfold gasesE1
    rw [if_pos (show gasE p.o p.h = 0 from h 0 (by simp))]
    exact ih fun k hk => h (k + 1) (by simpa using hk)
theorem gasesE1_at {P : List Gs} {k : Nat} (hk : k < P.length) (hz : ∀ j, (hj : j < k) → gasE (P[j]'(by omega)).o (P[j]'(by omega)).h = 0) (hn : gasE P[k].o P[k].h ≠ 0) : gasesE1 P = gasE P[k].o P[k].h := by
  induction P generalizing k with
  | nil => simp at hk
  | cons p r ih =>
    unfold gasesE1
    cases k with
    | zero => exact if_neg hn
    | succ k =>
      rw [if_pos (show gasE p.o p.h = 0 from hz 0 (by omega))]
      exact ih (by simpa using hk) (fun j hj => hz (j + 1) (by omega)) hn
set_option maxHeartbeats 1000000 in
theorem checkGases_any (P : List Gs) (A : Option Addr) (cap : Nat) (w : World) (hl : P.length ≤ 1000000) (hS : SlAt w A P) :
    Calls Try.prog 28 #[.slice A P.length cap] w fun e w' => e = .returned (.int .i64 (gasesE P)) ∧ Below w.heap.size w w' := by
  by_cases h8 : 8 < P.length
  · have he : Hid (gasesE P = 8) := if_pos h8
    clear hS
    go_enter Try.func28, Try.ntmps28
    go_wp2
    go_ret
    exact ⟨ret_int he.out.symm, (by (repeat (first | (with_reducible refine Below.drew ?_) | (with_reducible refine below_drewN ?_ _) | (with_reducible refine Below.alloc ?_ (by first | omega | (simp; done) | (simp; omega) | (simp at *; omega)) _) | (with_reducible refine Below.setCell ?_ (by first | omega | (simp; done) | (simp; omega) | (simp at *; omega)) _) | (with_reducible exact Below.refl _ _) | (with_reducible assumption) | (with_reducible refine Below.trans ?_ (Below.mono (by assumption) (by first | omega | (simp; done) | (simp; omega) | (simp at *; omega)))))))⟩
  · have he : Hid (gasesE P = gasesE1 P) := if_neg h8
    rcases hS with rfl | ⟨b, off, rfl, hlt, hP⟩
    · have hr : Hid (gasesE [] = 0) := rfl
      clear he
      simp only [List.length_nil]
      go_enter Try.func28, Try.ntmps28
      go_wp2
      go_loop [11] (fun i => i = .int .i64 0) (fun i => (1 - intOf i).toNat)
      case atStart => exact rfl
      case round =>
        subst hrel
        go_wp2
        go_ret
        exact ⟨ret_int hr.out.symm, (by (repeat (first | (with_reducible refine Below.drew ?_) | (with_reducible refine below_drewN ?_ _) | (with_reducible refine Below.alloc ?_ (by first | omega | (simp; done) | (simp; omega) | (simp at *; omega)) _) | (with_reducible refine Below.setCell ?_ (by first | omega | (simp; done) | (simp; omega) | (simp at *; omega)) _) | (with_reducible exact Below.refl _ _) | (with_reducible assumption) | (with_reducible refine Below.trans ?_ (Below.mono (by assumption) (by first | omega | (simp; done) | (simp; omega) | (simp at *; omega)))))))⟩
    · have HP : Hid (GasesAt w b off P) := hP
      clear hP
      go_enter Try.func28, Try.ntmps28
      go_wp2
      go_loopw [11] (fun i wr => ∃ k : Nat, k ≤ P.length ∧ i = .int .i64 k ∧ Hid (∀ j, (hj : j < k) → (hj' : j < P.length) → gasE P[j].o P[j].h = 0) ∧ Below w.heap.size w wr) (fun i _ => P.length - (intOf i).toNat)
      case atStart => exact ⟨0, by omega, rfl, fun j hj => by omega, Below.refl _ _⟩
      case round =>
        obtain ⟨k, hk, rfl, hz, hB⟩ := hrel
        by_cases hkl : k < P.length
        · obtain ⟨c0, c1⟩ := HP.out.below hB hlt k hkl
          have hsz := hB.size
          obtain ⟨po, ho⟩ : ∃ x, Hid (P[k].o = x) := ⟨P[k].o, rfl⟩
          obtain ⟨ph, hh⟩ : ∃ x, Hid (P[k].h = x) := ⟨P[k].h, rfl⟩
          rw [ho.out] at c0
          rw [hh.out] at c1
          rcases ez (gasE po ph) with ⟨hz0, hzb⟩ | ⟨hz0, hzb⟩
          · have hz2 : Hid (∀ j, (hj : j < k + 1) → (hj' : j < P.length) → gasE P[j].o P[j].h = 0) := fun j hj hj' => by
              by_cases e : j = k
              · subst e; rw [ho.out, hh.out]; exact hz0.out
              · exact hz.out j (by omega) hj'
            clear hz hz0
            go_wp2_with ((go_at_call 22; ((with_reducible refine (CheckGas_any _ _ _).mono ?_)); rintro e w' ⟨rfl, rfl⟩))
            go_roundw
            case rel => exact ⟨k + 1, by omega, by go_num, hz2, (by (repeat (first | (with_reducible refine Below.drew ?_) | (with_reducible refine below_drewN ?_ _) | (with_reducible refine Below.alloc ?_ (by first | omega | (simp; done) | (simp; omega) | (simp at *; omega)) _) | (with_reducible refine Below.setCell ?_ (by first | omega | (simp; done) | (simp; omega) | (simp at *; omega)) _) | (with_reducible exact Below.refl _ _) | (with_reducible assumption) | (with_reducible refine Below.trans ?_ (Below.mono (by assumption) (by first | omega | (simp; done) | (simp; omega) | (simp at *; omega)))))))⟩
            case measure => simp [intOf]; omega
          · have hr : Hid (gasesE P = gasE po ph) := by
              have h1 : gasE P[k].o P[k].h ≠ 0 := by rw [ho.out, hh.out]; exact hz0.out
              have h2 := gasesE1_at hkl (fun j hj => hz.out j hj (by omega)) h1
              show _ = _
              rw [he.out, h2, ho.out, hh.out]
            clear he hz
            go_wp2_with ((go_at_call 22; ((with_reducible refine (CheckGas_any _ _ _).mono ?_)); rintro e w' ⟨rfl, rfl⟩))
            go_ret
            exact ⟨ret_int hr.out.symm, (by (repeat (first | (with_reducible refine Below.drew ?_) | (with_reducible refine below_drewN ?_ _) | (with_reducible refine Below.alloc ?_ (by first | omega | (simp; done) | (simp; omega) | (simp at *; omega)) _) | (with_reducible refine Below.setCell ?_ (by first | omega | (simp; done) | (simp; omega) | (simp at *; omega)) _) | (with_reducible exact Below.refl _ _) | (with_reducible assumption) | (with_reducible refine Below.trans ?_ (Below.mono (by assumption) (by first | omega | (simp; done) | (simp; omega) | (simp at *; omega)))))))⟩
        · have hkk : k = P.length := by omega
          have hr : Hid (gasesE P = 0) := by
            show _ = _
            rw [he.out]; exact gasesE1_z fun j hj => hz.out j (by omega) hj
          clear hz he hkk
          go_wp2
          go_ret
          exact ⟨ret_int hr.out.symm, (by (repeat (first | (with_reducible refine Below.drew ?_) | (with_reducible refine below_drewN ?_ _) | (with_reducible refine Below.alloc ?_ (by first | omega | (simp; done) | (simp; omega) | (simp at *; omega)) _) | (with_reducible refine Below.setCell ?_ (by first | omega | (simp; done) | (simp; omega) | (simp at *; omega)) _) | (with_reducible exact Below.refl _ _) | (with_reducible assumption) | (with_reducible refine Below.trans ?_ (Below.mono (by assumption) (by first | omega | (simp; done) | (simp; omega) | (simp at *; omega)))))))⟩
/-- Is a gas richer than another one? -/
def richB (xo xh yo yh : Int) : Bool := decide (yo < xo) || (decide (xo = yo) && decide (xh < yh))
theorem richer_neg (xo xh best : Int) (pb pl : Nat) (w : World) (h1 : w.cell? ⟨pb, 0, none⟩ = some (.int .i64 best)) (hb : best < 0) :
    Calls Try.prog 32 #[.agg #[.int .i64 xo, .int .i64 xh], .pointer (some ⟨pb, 0, none⟩), .pointer (some ⟨pl, 0, none⟩)] w fun e w' => e = .returned (.bool true) ∧ Below w.heap.size w w' := by
  have hl := World.block_lt_of_cell? _ _ h1
  have hne : w.heap.size ≠ pb := by simp at hl; omega
  have hl2 : pb < w.heap.size := by simpa using hl
  have hd : decide (best < 0) = true := by simpa using hb
  go_enter Try.func32, Try.ntmps32
  go_wp2
  go_big_quiet (fail)
  go_wp2
  go_ret
  exact ⟨rfl, (by (repeat (first | (with_reducible refine Below.drew ?_) | (with_reducible refine below_drewN ?_ _) | (with_reducible refine Below.alloc ?_ (by first | omega | (simp; done) | (simp; omega) | (simp at *; omega)) _) | (with_reducible refine Below.setCell ?_ (by first | omega | (simp; done) | (simp; omega) | (simp at *; omega)) _) | (with_reducible exact Below.refl _ _) | (with_reducible assumption) | (with_reducible refine Below.trans ?_ (Below.mono (by assumption) (by first | omega | (simp; done) | (simp; omega) | (simp at *; omega)))))))⟩
theorem richer_gt (xo xh yo yh : Int) (j off n cap : Nat) (b pb pl : Nat) (w : World) (h1 : w.cell? ⟨pb, 0, none⟩ = some (.int .i64 (j : Int))) (h2 : w.cell? ⟨pl, 0, none⟩ = some (.slice (some ⟨b, off, none⟩) n cap)) (hj : (j : Int) < (n : Int)) (hn : (n : Int) ≤ 1000000) (h3 : w.cell? ⟨b, off + j * 2, none⟩ = some (.int .i64 yo)) (h4 : w.cell? ⟨b, off + j * 2 + 1, none⟩ = some (.int .i64 yh)) (g : yo < xo) :
    Calls Try.prog 32 #[.agg #[.int .i64 xo, .int .i64 xh], .pointer (some ⟨pb, 0, none⟩), .pointer (some ⟨pl, 0, none⟩)] w fun e w' => e = .returned (.bool true) ∧ Below w.heap.size w w' := by
  have hl := World.block_lt_of_cell? _ _ h1
  have hl2 := World.block_lt_of_cell? _ _ h2
  have hl3 := World.block_lt_of_cell? _ _ h3
  have l1 : pb < w.heap.size := by simpa using hl
  have l2 : pl < w.heap.size := by simpa using hl2
  have l3 : b < w.heap.size := by simpa using hl3
  clear hl hl2 hl3
  have e1 : w.heap.size ≠ pb := by omega
  have e2 : w.heap.size ≠ pl := by omega
  have e3 : w.heap.size ≠ b := by omega
  have hd : decide ((j : Int) < 0) = false := by simp
  have hd0 : (0 : Int) ≤ (j : Int) := by omega
  have g1 : decide (yo < xo) = true := by simpa using g
  go_enter Try.func32, Try.ntmps32
  go_wp2
  go_big_quiet (fail)
  go_wp2
  go_ret
  exact ⟨rfl, (by (repeat (first | (with_reducible refine Below.drew ?_) | (with_reducible refine below_drewN ?_ _) | (with_reducible refine Below.alloc ?_ (by first | omega | (simp; done) | (simp; omega) | (simp at *; omega)) _) | (with_reducible refine Below.setCell ?_ (by first | omega | (simp; done) | (simp; omega) | (simp at *; omega)) _) | (with_reducible exact Below.refl _ _) | (with_reducible assumption) | (with_reducible refine Below.trans ?_ (Below.mono (by assumption) (by first | omega | (simp; done) | (simp; omega) | (simp at *; omega)))))))⟩
theorem richer_lt (xo xh yo yh : Int) (j off n cap : Nat) (b pb pl : Nat) (w : World) (h1 : w.cell? ⟨pb, 0, none⟩ = some (.int .i64 (j : Int))) (h2 : w.cell? ⟨pl, 0, none⟩ = some (.slice (some ⟨b, off, none⟩) n cap)) (hj : (j : Int) < (n : Int)) (hn : (n : Int) ≤ 1000000) (h3 : w.cell? ⟨b, off + j * 2, none⟩ = some (.int .i64 yo)) (h4 : w.cell? ⟨b, off + j * 2 + 1, none⟩ = some (.int .i64 yh)) (g : xo < yo) :
    Calls Try.prog 32 #[.agg #[.int .i64 xo, .int .i64 xh], .pointer (some ⟨pb, 0, none⟩), .pointer (some ⟨pl, 0, none⟩)] w fun e w' => e = .returned (.bool false) ∧ Below w.heap.size w w' := by
  have hl := World.block_lt_of_cell? _ _ h1
  have hl2 := World.block_lt_of_cell? _ _ h2
  have hl3 := World.block_lt_of_cell? _ _ h3
  have l1 : pb < w.heap.size := by simpa using hl
  have l2 : pl < w.heap.size := by simpa using hl2
  have l3 : b < w.heap.size := by simpa using hl3
  clear hl hl2 hl3
  have e1 : w.heap.size ≠ pb := by omega
  have e2 : w.heap.size ≠ pl := by omega
  have e3 : w.heap.size ≠ b := by omega
  have hd : decide ((j : Int) < 0) = false := by simp
  have hd0 : (0 : Int) ≤ (j : Int) := by omega
  have g1 : decide (yo < xo) = false := by simp; omega
  have g2 : (xo == yo) = false := by simp; omega
  go_enter Try.func32, Try.ntmps32
  go_wp2
  go_big_quiet (fail)
  go_wp2
  go_ret
  exact ⟨rfl, (by (repeat (first | (with_reducible refine Below.drew ?_) | (with_reducible refine below_drewN ?_ _) | (with_reducible refine Below.alloc ?_ (by first | omega | (simp; done) | (simp; omega) | (simp at *; omega)) _) | (with_reducible refine Below.setCell ?_ (by first | omega | (simp; done) | (simp; omega) | (simp at *; omega)) _) | (with_reducible exact Below.refl _ _) | (with_reducible assumption) | (with_reducible refine Below.trans ?_ (Below.mono (by assumption) (by first | omega | (simp; done) | (simp; omega) | (simp at *; omega)))))))⟩
theorem richer_eq1 (xo xh yo yh : Int) (j off n cap : Nat) (b pb pl : Nat) (w : World) (h1 : w.cell? ⟨pb, 0, none⟩ = some (.int .i64 (j : Int))) (h2 : w.cell? ⟨pl, 0, none⟩ = some (.slice (some ⟨b, off, none⟩) n cap)) (hj : (j : Int) < (n : Int)) (hn : (n : Int) ≤ 1000000) (h3 : w.cell? ⟨b, off + j * 2, none⟩ = some (.int .i64 yo)) (h4 : w.cell? ⟨b, off + j * 2 + 1, none⟩ = some (.int .i64 yh)) (g : xo = yo) (gg : xh < yh) :
    Calls Try.prog 32 #[.agg #[.int .i64 xo, .int .i64 xh], .pointer (some ⟨pb, 0, none⟩), .pointer (some ⟨pl, 0, none⟩)] w fun e w' => e = .returned (.bool true) ∧ Below w.heap.size w w' := by
  have hl := World.block_lt_of_cell? _ _ h1
  have hl2 := World.block_lt_of_cell? _ _ h2
  have hl3 := World.block_lt_of_cell? _ _ h3
  have l1 : pb < w.heap.size := by simpa using hl
  have l2 : pl < w.heap.size := by simpa using hl2
  have l3 : b < w.heap.size := by simpa using hl3
  clear hl hl2 hl3
  have e1 : w.heap.size ≠ pb := by omega
  have e2 : w.heap.size ≠ pl := by omega
  have e3 : w.heap.size ≠ b := by omega
  have hd : decide ((j : Int) < 0) = false := by simp
  have hd0 : (0 : Int) ≤ (j : Int) := by omega
  have g1 : decide (yo < xo) = false := by simp; omega
  have g2 : (xo == yo) = true := by simpa using g
  have g3 : decide (xh < yh) = true := by simpa using gg
  clear g gg
  go_enter Try.func32, Try.ntmps32
  go_wp2
  go_big_quiet (fail)
  go_wp2
  go_ret
  exact ⟨rfl, (by (repeat (first | (with_reducible refine Below.drew ?_) | (with_reducible refine below_drewN ?_ _) | (with_reducible refine Below.alloc ?_ (by first | omega | (simp; done) | (simp; omega) | (simp at *; omega)) _) | (with_reducible refine Below.setCell ?_ (by first | omega | (simp; done) | (simp; omega) | (simp at *; omega)) _) | (with_reducible exact Below.refl _ _) | (with_reducible assumption) | (with_reducible refine Below.trans ?_ (Below.mono (by assumption) (by first | omega | (simp; done) | (simp; omega) | (simp at *; omega)))))))⟩
theorem richer_eq0 (xo xh yo yh : Int) (j off n cap : Nat) (b pb pl : Nat) (w : World) (h1 : w.cell? ⟨pb, 0, none⟩ = some (.int .i64 (j : Int))) (h2 : w.cell? ⟨pl, 0, none⟩ = some (.slice (some ⟨b, off, none⟩) n cap)) (hj : (j : Int) < (n : Int)) (hn : (n : Int) ≤ 1000000) (h3 : w.cell? ⟨b, off + j * 2, none⟩ = some (.int .i64 yo)) (h4 : w.cell? ⟨b, off + j * 2 + 1, none⟩ = some (.int .i64 yh)) (g : xo = yo) (gg : ¬ xh < yh) :
    Calls Try.prog 32 #[.agg #[.int .i64 xo, .int .i64 xh], .pointer (some ⟨pb, 0, none⟩), .pointer (some ⟨pl, 0, none⟩)] w fun e w' => e = .returned (.bool false) ∧ Below w.heap.size w w' := by
  have hl := World.block_lt_of_cell? _ _ h1
  have hl2 := World.block_lt_of_cell? _ _ h2
  have hl3 := World.block_lt_of_cell? _ _ h3
  have l1 : pb < w.heap.size := by simpa using hl
  have l2 : pl < w.heap.size := by simpa using hl2
  have l3 : b < w.heap.size := by simpa using hl3
  clear hl hl2 hl3
  have e1 : w.heap.size ≠ pb := by omega
  have e2 : w.heap.size ≠ pl := by omega
  have e3 : w.heap.size ≠ b := by omega
  have hd : decide ((j : Int) < 0) = false := by simp
  have hd0 : (0 : Int) ≤ (j : Int) := by omega
  have g1 : decide (yo < xo) = false := by simp; omega
  have g2 : (xo == yo) = true := by simpa using g
  have g3 : decide (xh < yh) = false := by simp; omega
  clear g gg
  go_enter Try.func32, Try.ntmps32
  go_wp2
  go_big_quiet (fail)
  go_wp2
  go_ret
  exact ⟨rfl, (by (repeat (first | (with_reducible refine Below.drew ?_) | (with_reducible refine below_drewN ?_ _) | (with_reducible refine Below.alloc ?_ (by first | omega | (simp; done) | (simp; omega) | (simp at *; omega)) _) | (with_reducible refine Below.setCell ?_ (by first | omega | (simp; done) | (simp; omega) | (simp at *; omega)) _) | (with_reducible exact Below.refl _ _) | (with_reducible assumption) | (with_reducible refine Below.trans ?_ (Below.mono (by assumption) (by first | omega | (simp; done) | (simp; omega) | (simp at *; omega)))))))⟩
theorem richer_pos (xo xh yo yh : Int) (j off n cap : Nat) (b pb pl : Nat) (w : World) (h1 : w.cell? ⟨pb, 0, none⟩ = some (.int .i64 (j : Int))) (h2 : w.cell? ⟨pl, 0, none⟩ = some (.slice (some ⟨b, off, none⟩) n cap)) (hj : (j : Int) < (n : Int)) (hn : (n : Int) ≤ 1000000) (h3 : w.cell? ⟨b, off + j * 2, none⟩ = some (.int .i64 yo)) (h4 : w.cell? ⟨b, off + j * 2 + 1, none⟩ = some (.int .i64 yh)) :
    Calls Try.prog 32 #[.agg #[.int .i64 xo, .int .i64 xh], .pointer (some ⟨pb, 0, none⟩), .pointer (some ⟨pl, 0, none⟩)] w fun e w' => e = .returned (.bool (richB xo xh yo yh)) ∧ Below w.heap.size w w' := by
  unfold richB
  by_cases c1 : yo < xo
  · rw [show (decide (yo < xo) || (decide (xo = yo) && decide (xh < yh))) = true by simp [c1]]
    exact richer_gt xo xh yo yh j off n cap b pb pl w h1 h2 hj hn h3 h4 c1
  · by_cases c2 : xo = yo
    · by_cases c3 : xh < yh
      · rw [show (decide (yo < xo) || (decide (xo = yo) && decide (xh < yh))) = true by simp [c2, c3]]
        exact richer_eq1 xo xh yo yh j off n cap b pb pl w h1 h2 hj hn h3 h4 c2 c3
      · rw [show (decide (yo < xo) || (decide (xo = yo) && decide (xh < yh))) = false by first | (simp [c2, c3]; done) | (simp [c2, c3]; omega)]
        exact richer_eq0 xo xh yo yh j off n cap b pb pl w h1 h2 hj hn h3 h4 c2 c3
    · rw [show (decide (yo < xo) || (decide (xo = yo) && decide (xh < yh))) = false by first | (simp [c2]; done) | (simp [c2]; omega)]
      exact richer_lt xo xh yo yh j off n cap b pb pl w h1 h2 hj hn h3 h4 (by omega)
end Go.Proofs.Ytebieflnlmdllab
