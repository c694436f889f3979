/- The specification's checks of waves and tables, the statement's example of a level. -/
import Derived.Test.YtojaompfffpofaaGreatSLat
import Derived.Outline
namespace Go.Proofs.YtojaompfffpofaaGreat
open Go.ChangeShapes Go.WideShapes Go.ChangeAt Go.RowKit
set_option linter.unusedVariables false
set_option linter.unusedSimpArgs false
attribute [local go_sem ↓] Go.wp_at_zero Go.wp_at_succ
theorem isMin_is (n : Int) (p : Bool) (w : World) (hp : Hid (inB n 0 1000000 = p)) :
    Calls Tryz.prog 39 #[.int .i64 n] w fun e w' => e = .returned (.bool p) ∧ w = w' := by
  rw [← hp.out]
  go_enter Tryz.func39, Tryz.ntmps39
  go_wp2_with ((go_at_call 23; ((with_reducible refine (baseWithin_any _ _ _ _).mono ?_)); rintro e w' ⟨rfl, rfl⟩))
  go_ret
  exact ⟨rfl, rfl⟩
theorem wvE_cases (h p f : Int) : (inB h 0 100000 = true ∧ inB p 1 100000 = true ∧ inB f 0 4095 = true ∧ wvE ⟨h, p, f⟩ = 0) ∨ (inB h 0 100000 = false ∧ wvE ⟨h, p, f⟩ = 2) ∨ (inB h 0 100000 = true ∧ inB p 1 100000 = false ∧ wvE ⟨h, p, f⟩ = 2) ∨ (inB h 0 100000 = true ∧ inB p 1 100000 = true ∧ inB f 0 4095 = false ∧ wvE ⟨h, p, f⟩ = 2) := by
  unfold wvE
  dsimp only
  rcases inB_cases h 0 100000 with h1 | h1
  · rcases inB_cases p 1 100000 with h2 | h2
    · rcases inB_cases f 0 4095 with h3 | h3
      · left; rw [rngE_t h1, rngE_t h2, rngE_t h3]; exact ⟨h1, h2, h3, rfl⟩
      · right; right; right; rw [rngE_t h1, rngE_t h2, rngE_f h3]; exact ⟨h1, h2, h3, rfl⟩
    · right; right; left; rw [rngE_t h1, rngE_f h2]; exact ⟨h1, h2, rfl⟩
  · right; left; rw [rngE_f h1]; exact ⟨h1, rfl⟩
set_option maxRecDepth 100000 in
theorem refWave_is (h p f E : Int) (w : World) (hE : Hid (wvE ⟨h, p, f⟩ = E)) :
    Calls Tryz.prog 73 #[.agg #[.int .i64 h, .int .i64 p, .int .i64 f]] w fun e w' => e = .returned (.int .i64 E) ∧ Below w.heap.size w w' := by
  have he := hE.out
  clear hE
  rcases wvE_cases h p f with ⟨h1, h2, h3, h4⟩ | ⟨h1, h4⟩ | ⟨h1, h2, h4⟩ | ⟨h1, h2, h3, h4⟩
  all_goals
    rw [h4] at he
    have HE := Lib.hid he
    clear he h4
    go_enter Tryz.func73, Tryz.ntmps73
    go_wp2_with ((go_at_call 23; ((with_reducible refine (baseWithin_any _ _ _ _).mono ?_)); rintro e w' ⟨rfl, rfl⟩))
    go_ret
    exact ⟨ret_int HE.out, (by (repeat (first | (with_reducible refine Below.drew ?_) | (with_reducible refine below_drewN ?_ _) | (with_reducible refine Below.alloc ?_ (by first | omega | (simp; done) | (simp; omega) | (simp at *; omega)) _) | (with_reducible refine Below.setCell ?_ (by first | omega | (simp; done) | (simp; omega) | (simp at *; omega)) _) | (with_reducible exact Below.refl _ _) | (with_reducible assumption) | (with_reducible refine Below.trans ?_ (Below.mono (by assumption) (by first | omega | (simp; done) | (simp; omega) | (simp at *; omega)))))))⟩
set_option maxRecDepth 100000 in
set_option maxHeartbeats 1000000 in
theorem refTide_is (m : Int) (L : List Wv) (A : Option Addr) (cap n : Nat) (E : Int) (w : World) (hn : Hid (n = L.length)) (hl : n ≤ 1000000) (HL : Hid (SlRows wvV 3 w A L)) (hE : Hid (tidE m L = E)) :
    Calls Tryz.prog 17 #[.agg #[.int .i64 m, .slice A n cap]] w fun e w' => e = .returned (.int .i64 E) ∧ Below w.heap.size w w' := by
  have he := hE.out
  unfold tidE at he
  clear hE
  rcases inB_cases m (-100000) 100000 with h1 | h1
  · rw [if_pos h1] at he
    by_cases h2 : L.length ≤ 10
    · rw [if_pos h2] at he
      have HE := Lib.hid he
      clear he
      have h3 : ¬ (10 : Int) < (n : Int) := by have := hn.out; omega
      clear h2
      have HR : Hid (∀ w' : World, Below w.heap.size w w' → SlRows wvV 3 w' A L) := Lib.hid fun w' hB => HL.out.below hB
      go_enter Tryz.func17, Tryz.ntmps17
      go_wp2_with ((go_at_call 23; ((with_reducible refine (baseWithin_any _ _ _ _).mono ?_)); rintro e w' ⟨rfl, rfl⟩))
      go_loopw [3] (fun i wr => ∃ k : Nat, k ≤ n ∧ i = .int .i64 k ∧ Hid (∀ j, (hj : j < k) → (hj' : j < L.length) → wvE L[j] = 0) ∧ wr.cell? ⟨w.heap.size, 1, none⟩ = some (.slice A n cap) ∧ w.heap.size < wr.heap.size ∧ Below w.heap.size w wr) (fun i _ => n - (intOf i).toNat)
      case atStart => exact ⟨0, by omega, rfl, fun j hj => by omega, by simp [go_sem], by simp, (by (repeat (first | (with_reducible refine Below.drew ?_) | (with_reducible refine below_drewN ?_ _) | (with_reducible refine Below.alloc ?_ (by first | omega | (simp; done) | (simp; omega) | (simp at *; omega)) _) | (with_reducible refine Below.setCell ?_ (by first | omega | (simp; done) | (simp; omega) | (simp at *; omega)) _) | (with_reducible exact Below.refl _ _) | (with_reducible assumption) | (with_reducible refine Below.trans ?_ (Below.mono (by assumption) (by first | omega | (simp; done) | (simp; omega) | (simp at *; omega)))))))⟩
      case round =>
        obtain ⟨k, hk, rfl, hz, cs, sz, hB⟩ := hrel
        have n1 : wr.heap.size ≠ w.heap.size := by omega
        have n2 : w.heap.size ≠ wr.heap.size := by omega
        by_cases hkn : k < n
        · have hkl : k < L.length := by have := hn.out; omega
          have kn : (k : Int) < (n : Int) := by omega
          rcases HR.out _ hB with h0 | ⟨b, off, rfl, hlt, hR⟩
          · rw [h0] at hkl; simp at hkl
          obtain ⟨c0, c1, c2⟩ := wv_at hR hkl
          obtain ⟨⟨p0, p1, p2⟩, h0⟩ : ∃ x, Hid (L[k] = x) := ⟨L[k], Lib.hid rfl⟩
          rw [h0.out] at c0 c1 c2
          dsimp only at c0 c1 c2
          obtain ⟨F, hF⟩ : ∃ F, Hid (wvE ⟨p0, p1, p2⟩ = F) := ⟨_, Lib.hid rfl⟩
          clear hR
          rcases ez2 F with ⟨hz0, hzb⟩ | ⟨hz0, hzb⟩
          · have hz2 : Hid (∀ j, (hj : j < k + 1) → (hj' : j < L.length) → wvE L[j] = 0) := fun j hj hj' => by
              by_cases e : j = k
              · subst e; rw [h0.out, hF.out]; exact hz0.out
              · exact hz.out j (by omega) hj'
            clear hz hz0
            go_wp2_with ((go_at_call 73; ((with_reducible refine (refWave_is _ _ _ _ _ hF).mono ?_)); rintro e w1 ⟨rfl, hbw⟩; obtain ⟨hbc, hbf⟩ := bcell hbw; have hbs := hbw.size))
            go_roundw
            case rel => exact ⟨k + 1, by omega, by go_num, hz2, by simp [go_sem, *], by omega, (by (repeat (first | (with_reducible refine Below.drew ?_) | (with_reducible refine below_drewN ?_ _) | (with_reducible refine Below.alloc ?_ (by first | omega | (simp; done) | (simp; omega) | (simp at *; omega)) _) | (with_reducible refine Below.setCell ?_ (by first | omega | (simp; done) | (simp; omega) | (simp at *; omega)) _) | (with_reducible exact Below.refl _ _) | (with_reducible assumption) | (with_reducible refine Below.trans ?_ (Below.mono (by assumption) (by first | omega | (simp; done) | (simp; omega) | (simp at *; omega)))))))⟩
            case measure => simp [intOf]; omega
          · have hr : Hid (E = F) := Lib.hid (by
              have h1 : wvE L[k] ≠ 0 := by rw [h0.out, hF.out]; exact hz0.out
              have h2 := fstE_at hkl (fun j hj => hz.out j hj (by omega)) h1
              rw [h0.out, hF.out, HE.out] at h2
              exact h2)
            clear hz
            go_wp2_with ((go_at_call 73; ((with_reducible refine (refWave_is _ _ _ _ _ hF).mono ?_)); rintro e w1 ⟨rfl, hbw⟩; obtain ⟨hbc, hbf⟩ := bcell hbw; have hbs := hbw.size))
            go_ret
            exact ⟨ret_int hr.out.symm, (by (repeat (first | (with_reducible refine Below.drew ?_) | (with_reducible refine below_drewN ?_ _) | (with_reducible refine Below.alloc ?_ (by first | omega | (simp; done) | (simp; omega) | (simp at *; omega)) _) | (with_reducible refine Below.setCell ?_ (by first | omega | (simp; done) | (simp; omega) | (simp at *; omega)) _) | (with_reducible exact Below.refl _ _) | (with_reducible assumption) | (with_reducible refine Below.trans ?_ (Below.mono (by assumption) (by first | omega | (simp; done) | (simp; omega) | (simp at *; omega)))))))⟩
        · have hkk : k = n := by omega
          have hr : Hid (E = 0) := Lib.hid (by rw [← HE.out]; exact fstE_z fun j hj => hz.out j (by have := hn.out; omega) hj)
          clear hz hkk
          go_wp2
          go_ret
          exact ⟨ret_int hr.out.symm, (by (repeat (first | (with_reducible refine Below.drew ?_) | (with_reducible refine below_drewN ?_ _) | (with_reducible refine Below.alloc ?_ (by first | omega | (simp; done) | (simp; omega) | (simp at *; omega)) _) | (with_reducible refine Below.setCell ?_ (by first | omega | (simp; done) | (simp; omega) | (simp at *; omega)) _) | (with_reducible exact Below.refl _ _) | (with_reducible assumption) | (with_reducible refine Below.trans ?_ (Below.mono (by assumption) (by first | omega | (simp; done) | (simp; omega) | (simp at *; omega)))))))⟩
    · rw [if_neg h2] at he
      have HE := Lib.hid he
      clear he
      have h3 : (10 : Int) < (n : Int) := by have := hn.out; omega
      clear h2
      go_enter Tryz.func17, Tryz.ntmps17
      go_wp2_with ((go_at_call 23; ((with_reducible refine (baseWithin_any _ _ _ _).mono ?_)); rintro e w' ⟨rfl, rfl⟩))
      go_ret
      exact ⟨ret_int HE.out, (by (repeat (first | (with_reducible refine Below.drew ?_) | (with_reducible refine below_drewN ?_ _) | (with_reducible refine Below.alloc ?_ (by first | omega | (simp; done) | (simp; omega) | (simp at *; omega)) _) | (with_reducible refine Below.setCell ?_ (by first | omega | (simp; done) | (simp; omega) | (simp at *; omega)) _) | (with_reducible exact Below.refl _ _) | (with_reducible assumption) | (with_reducible refine Below.trans ?_ (Below.mono (by assumption) (by first | omega | (simp; done) | (simp; omega) | (simp at *; omega)))))))⟩
  · rw [h1, if_neg Bool.false_ne_true] at he
    have HE := Lib.hid he
    clear he
    go_enter Tryz.func17, Tryz.ntmps17
    go_wp2_with ((go_at_call 23; ((with_reducible refine (baseWithin_any _ _ _ _).mono ?_)); rintro e w' ⟨rfl, rfl⟩))
    go_ret
    exact ⟨ret_int HE.out, (by (repeat (first | (with_reducible refine Below.drew ?_) | (with_reducible refine below_drewN ?_ _) | (with_reducible refine Below.alloc ?_ (by first | omega | (simp; done) | (simp; omega) | (simp at *; omega)) _) | (with_reducible refine Below.setCell ?_ (by first | omega | (simp; done) | (simp; omega) | (simp at *; omega)) _) | (with_reducible exact Below.refl _ _) | (with_reducible assumption) | (with_reducible refine Below.trans ?_ (Below.mono (by assumption) (by first | omega | (simp; done) | (simp; omega) | (simp at *; omega)))))))⟩
/-- At most 4 waves, or a few too many. -/
def fewB (n : Nat) : Bool := decide (n ≤ 4) || (decide (10 < n) && decide (n ≤ 12))
theorem few_is (m : Int) (A : Option Addr) (n cap : Nat) (p : Bool) (w : World) (hl : n ≤ 9223372036854775807) (hp : Hid (fewB n = p)) :
    Calls Tryz.prog 12 #[.agg #[.int .i64 m, .slice A n cap]] w fun e w' => e = .returned (.bool p) ∧ Below w.heap.size w w' := by
  have he := hp.out
  unfold fewB at he
  clear hp
  have hc : n ≤ 4 ∨ (4 < n ∧ n ≤ 10) ∨ (10 < n ∧ n ≤ 12) ∨ 12 < n := by omega
  rcases hc with h | ⟨h, h2⟩ | ⟨h, h2⟩ | h
  · have HE : Hid (p = true) := Lib.hid (by rw [← he]; simp [h])
    have i1 : (n : Int) ≤ 4 := by omega
    clear he h
    go_enter Tryz.func12, Tryz.ntmps12
    go_wp2
    go_ret
    exact ⟨ret_bool HE.out.symm, (by (repeat (first | (with_reducible refine Below.drew ?_) | (with_reducible refine below_drewN ?_ _) | (with_reducible refine Below.alloc ?_ (by first | omega | (simp; done) | (simp; omega) | (simp at *; omega)) _) | (with_reducible refine Below.setCell ?_ (by first | omega | (simp; done) | (simp; omega) | (simp at *; omega)) _) | (with_reducible exact Below.refl _ _) | (with_reducible assumption) | (with_reducible refine Below.trans ?_ (Below.mono (by assumption) (by first | omega | (simp; done) | (simp; omega) | (simp at *; omega)))))))⟩
  · have HE : Hid (p = false) := Lib.hid (by rw [← he]; simp; omega)
    have i1 : ¬ (n : Int) ≤ 4 := by omega
    have i2 : ¬ (10 : Int) < n := by omega
    clear he h h2
    go_enter Tryz.func12, Tryz.ntmps12
    go_wp2
    go_ret
    exact ⟨ret_bool HE.out.symm, (by (repeat (first | (with_reducible refine Below.drew ?_) | (with_reducible refine below_drewN ?_ _) | (with_reducible refine Below.alloc ?_ (by first | omega | (simp; done) | (simp; omega) | (simp at *; omega)) _) | (with_reducible refine Below.setCell ?_ (by first | omega | (simp; done) | (simp; omega) | (simp at *; omega)) _) | (with_reducible exact Below.refl _ _) | (with_reducible assumption) | (with_reducible refine Below.trans ?_ (Below.mono (by assumption) (by first | omega | (simp; done) | (simp; omega) | (simp at *; omega)))))))⟩
  · have HE : Hid (p = true) := Lib.hid (by rw [← he]; simp; omega)
    have i1 : ¬ (n : Int) ≤ 4 := by omega
    have i2 : (10 : Int) < n := by omega
    have i3 : (n : Int) ≤ 12 := by omega
    clear he h h2
    go_enter Tryz.func12, Tryz.ntmps12
    go_wp2
    go_ret
    exact ⟨ret_bool HE.out.symm, (by (repeat (first | (with_reducible refine Below.drew ?_) | (with_reducible refine below_drewN ?_ _) | (with_reducible refine Below.alloc ?_ (by first | omega | (simp; done) | (simp; omega) | (simp at *; omega)) _) | (with_reducible refine Below.setCell ?_ (by first | omega | (simp; done) | (simp; omega) | (simp at *; omega)) _) | (with_reducible exact Below.refl _ _) | (with_reducible assumption) | (with_reducible refine Below.trans ?_ (Below.mono (by assumption) (by first | omega | (simp; done) | (simp; omega) | (simp at *; omega)))))))⟩
  · have HE : Hid (p = false) := Lib.hid (by rw [← he]; simp; omega)
    have i1 : ¬ (n : Int) ≤ 4 := by omega
    have i2 : (10 : Int) < n := by omega
    have i3 : ¬ (n : Int) ≤ 12 := by omega
    clear he h
    go_enter Tryz.func12, Tryz.ntmps12
    go_wp2
    go_ret
    exact ⟨ret_bool HE.out.symm, (by (repeat (first | (with_reducible refine Below.drew ?_) | (with_reducible refine below_drewN ?_ _) | (with_reducible refine Below.alloc ?_ (by first | omega | (simp; done) | (simp; omega) | (simp at *; omega)) _) | (with_reducible refine Below.setCell ?_ (by first | omega | (simp; done) | (simp; omega) | (simp at *; omega)) _) | (with_reducible exact Below.refl _ _) | (with_reducible assumption) | (with_reducible refine Below.trans ?_ (Below.mono (by assumption) (by first | omega | (simp; done) | (simp; omega) | (simp at *; omega)))))))⟩
theorem Few_is (m : Int) (A : Option Addr) (n cap : Nat) (p : Bool) (w : World) (hl : n ≤ 9223372036854775807) (hp : Hid (fewB n = p)) :
    Calls Tryz.prog 56 #[.agg #[.int .i64 m, .slice A n cap]] w fun e w' => e = .returned (.bool p) ∧ Below w.heap.size w w' := by
  go_enter Tryz.func56, Tryz.ntmps56
  go_wp2_with ((go_at_call 12; ((with_reducible refine (few_is _ _ _ _ _ _ hl hp).mono ?_)); rintro e w1 ⟨rfl, hbw⟩; obtain ⟨hbc, hbf⟩ := bcell hbw; have hbs := hbw.size))
  go_ret
  exact ⟨rfl, (by (repeat (first | (with_reducible refine Below.drew ?_) | (with_reducible refine below_drewN ?_ _) | (with_reducible refine Below.alloc ?_ (by first | omega | (simp; done) | (simp; omega) | (simp at *; omega)) _) | (with_reducible refine Below.setCell ?_ (by first | omega | (simp; done) | (simp; omega) | (simp at *; omega)) _) | (with_reducible exact Below.refl _ _) | (with_reducible assumption) | (with_reducible refine Below.trans ?_ (Below.mono (by assumption) (by first | omega | (simp; done) | (simp; omega) | (simp at *; omega)))))))⟩
/-- The table of the example. -/
def exL : List Wv := [⟨100, 4096, 0⟩]
def TideP (w : World) (e : Ending) (w' : World) : Prop := ∃ b, e = .returned (.agg #[.int .i64 200, .slice (some ⟨b, 0, none⟩) 1 1]) ∧ SlRows wvV 3 w' (some ⟨b, 0, none⟩) exL ∧ Below w.heap.size w w'
theorem Tide_any (w : World) : Calls Tryz.prog 62 #[] w (TideP w) := by
  go_enter Tryz.func62, Tryz.ntmps62
  go_wp2
  refine bodyPost_ret (v := .agg #[.int .i64 200, .slice (some ⟨w.heap.size + 1, 0, none⟩) 1 1]) (by simp [results, Tryz.results62, go_sem, *]) rfl ⟨_, rfl, Or.inr ⟨_, 0, rfl, by simp, ?_⟩, ?_⟩
  · intro k hk i hi
    obtain rfl : k = 0 := by simp [exL] at hk; omega
    rcases (show i = 0 ∨ i = 1 ∨ i = 2 by omega) with rfl | rfl | rfl <;> simp [go_sem, exL, wvV]
  · (repeat (first | (with_reducible refine Below.drew ?_) | (with_reducible refine below_drewN ?_ _) | (with_reducible refine Below.alloc ?_ (by first | omega | (simp; done) | (simp; omega) | (simp at *; omega)) _) | (with_reducible refine Below.setCell ?_ (by first | omega | (simp; done) | (simp; omega) | (simp at *; omega)) _) | (with_reducible exact Below.refl _ _) | (with_reducible assumption) | (with_reducible refine Below.trans ?_ (Below.mono (by assumption) (by first | omega | (simp; done) | (simp; omega) | (simp at *; omega))))))
theorem ex_lvl : levLo 200 exL 512 = 270 ∧ levHi 200 exL 512 = 271 ∧ lvlE 200 exL 512 = 0 := by decide +kernel
theorem tidal_any (w : World) : Calls Tryz.prog 55 #[] w fun e w' => e = .returned (.bool true) ∧ Below w.heap.size w w' := by
  have h0 := Lib.hid ex_lvl.1
  have h1 := Lib.hid ex_lvl.2.1
  have h2 := Lib.hid ex_lvl.2.2
  go_enter Tryz.func55, Tryz.ntmps55
  go_wp2_with fail
  refine (Tide_any _).mono ?_
  rintro e w1 ⟨b, rfl, hS, hb1⟩
  have HS := Lib.hid hS
  clear hS
  go_wp2_with fail
  refine (LevelAt_good 200 exL _ 1 1 512 270 271 _ (Lib.hid rfl) (by omega) HS h2 h0 h1).mono ?_
  rintro e w2 ⟨rfl, hb2⟩
  have hB2 : Below w.heap.size w w2 := hb1.trans (hb2.mono hb1.size)
  have s2 := hB2.size
  clear hb1 hb2
  go_wp2
  go_ret
  exact ⟨rfl, (by (repeat (first | (with_reducible refine Below.drew ?_) | (with_reducible refine below_drewN ?_ _) | (with_reducible refine Below.alloc ?_ (by first | omega | (simp; done) | (simp; omega) | (simp at *; omega)) _) | (with_reducible refine Below.setCell ?_ (by first | omega | (simp; done) | (simp; omega) | (simp at *; omega)) _) | (with_reducible exact Below.refl _ _) | (with_reducible assumption) | (with_reducible refine Below.trans ?_ (Below.mono (by assumption) (by first | omega | (simp; done) | (simp; omega) | (simp at *; omega)))))))⟩
end Go.Proofs.YtojaompfffpofaaGreat
