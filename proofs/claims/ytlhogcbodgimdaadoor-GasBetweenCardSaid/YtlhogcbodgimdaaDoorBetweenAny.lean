/- The call of shotlinelaw01.GasBetween: true for every list of parts. -/
import Derived.Test.YtlhogcbodgimdaaDoorLawBetween
import Derived.Test.YtlhogcbodgimdaaDoorLawBetweenL
import Derived.Outline
namespace Go.Proofs.YtlhogcbodgimdaaDoor
open Go.ChangeShapes Go.WideShapes Go.ChangeAt Go.RowKit
set_option linter.unusedVariables false
set_option linter.unusedSimpArgs false

theorem mxLen (W : World) (h : W.ShapedOpen Tryd.prog) : ∃ m, W.cell? ⟨1, 0, none⟩ = some (.int .i64 m) := Tryd.laysM145.s1_3 W h
set_option maxRecDepth 100000 in
set_option maxHeartbeats 4000000 in
theorem blaw_big (P : List Part) (A : Option Addr) (cap : Nat) (w : World) (m : Int) (hm : w.cell? ⟨1, 0, none⟩ = some (.int .i64 m)) (hl : P.length ≤ 9223372036854775807) (hx : Hid (decide (P.length ≤ 15) = false)) :
    Calls Tryd.prog 3 #[.slice A P.length cap] w fun e w' => e = .returned (.bool true) ∧ Below w.heap.size w w' := by
  have hlm := World.block_lt_of_cell? _ _ hm
  have hne : w.heap.size ≠ 1 := by simp at hlm; omega
  have hl2 : 1 < w.heap.size := by simpa using hlm
  clear hlm
  go_enter Tryd.func3, Tryd.ntmps3
  go_wp2_with fail
  refine (awake_any _ m (by exact oldCellM (by (repeat (first | (with_reducible refine Below.drew ?_) | (with_reducible refine below_drewN ?_ _) | (with_reducible refine Below.alloc ?_ (by first | omega | (simp; done) | (simp; omega) | (simp at *; omega)) _) | (with_reducible refine Below.setCell ?_ (by first | omega | (simp; done) | (simp; omega) | (simp at *; omega)) _) | (with_reducible exact Below.refl _ _) | (with_reducible assumption) | (with_reducible refine Below.trans ?_ (Below.mono (by assumption) (by first | omega | (simp; done) | (simp; omega) | (simp at *; omega))))))) hm)).mono ?_
  rintro e w1 ⟨rfl, hbw1⟩
  have z1 := hbw1.size
  try simp at z1
  have hB1 : Below w.heap.size w w1 := (by (repeat (first | (with_reducible refine Below.drew ?_) | (with_reducible refine below_drewN ?_ _) | (with_reducible refine Below.alloc ?_ (by first | omega | (simp; done) | (simp; omega) | (simp at *; omega)) _) | (with_reducible refine Below.setCell ?_ (by first | omega | (simp; done) | (simp; omega) | (simp at *; omega)) _) | (with_reducible exact Below.refl _ _) | (with_reducible assumption) | (with_reducible refine Below.trans ?_ (Below.mono (by assumption) (by first | omega | (simp; done) | (simp; omega) | (simp at *; omega)))))))
  have b1 : w.heap.size ≤ w1.heap.size := by omega
  clear hbw1
  go_wp2_with ((go_at_call 6; ((with_reducible refine (short_any A P.length cap _ false hx hl).mono ?_)); rintro e w' ⟨rfl, rfl⟩))
  go_ret
  exact ⟨rfl, (by (repeat (first | (with_reducible refine Below.drew ?_) | (with_reducible refine below_drewN ?_ _) | (with_reducible refine Below.alloc ?_ (by first | omega | (simp; done) | (simp; omega) | (simp at *; omega)) _) | (with_reducible refine Below.setCell ?_ (by first | omega | (simp; done) | (simp; omega) | (simp at *; omega)) _) | (with_reducible exact Below.refl _ _) | (with_reducible assumption) | (with_reducible refine Below.trans ?_ (Below.mono (by assumption) (by first | omega | (simp; done) | (simp; omega) | (simp at *; omega)))))))⟩
set_option maxRecDepth 100000 in
set_option maxHeartbeats 4000000 in
theorem blaw_err (P : List Part) (A : Option Addr) (cap : Nat) (w : World) (m : Int) (hm : w.cell? ⟨1, 0, none⟩ = some (.int .i64 m)) (hl : P.length ≤ 1000) (hx : Hid (decide (P.length ≤ 15) = true)) (HS : Hid (PSl w A P)) (c : Int) (hc : Hid (checkPartsE P = c)) (hc1 : (c != 0) = true) :
    Calls Tryd.prog 3 #[.slice A P.length cap] w fun e w' => e = .returned (.bool true) ∧ Below w.heap.size w w' := by
  have hlm := World.block_lt_of_cell? _ _ hm
  have hne : w.heap.size ≠ 1 := by simp at hlm; omega
  have hl2 : 1 < w.heap.size := by simpa using hlm
  clear hlm
  go_enter Tryd.func3, Tryd.ntmps3
  go_wp2_with fail
  refine (awake_any _ m (by exact oldCellM (by (repeat (first | (with_reducible refine Below.drew ?_) | (with_reducible refine below_drewN ?_ _) | (with_reducible refine Below.alloc ?_ (by first | omega | (simp; done) | (simp; omega) | (simp at *; omega)) _) | (with_reducible refine Below.setCell ?_ (by first | omega | (simp; done) | (simp; omega) | (simp at *; omega)) _) | (with_reducible exact Below.refl _ _) | (with_reducible assumption) | (with_reducible refine Below.trans ?_ (Below.mono (by assumption) (by first | omega | (simp; done) | (simp; omega) | (simp at *; omega))))))) hm)).mono ?_
  rintro e w1 ⟨rfl, hbw1⟩
  have z1 := hbw1.size
  try simp at z1
  have hB1 : Below w.heap.size w w1 := (by (repeat (first | (with_reducible refine Below.drew ?_) | (with_reducible refine below_drewN ?_ _) | (with_reducible refine Below.alloc ?_ (by first | omega | (simp; done) | (simp; omega) | (simp at *; omega)) _) | (with_reducible refine Below.setCell ?_ (by first | omega | (simp; done) | (simp; omega) | (simp at *; omega)) _) | (with_reducible exact Below.refl _ _) | (with_reducible assumption) | (with_reducible refine Below.trans ?_ (Below.mono (by assumption) (by first | omega | (simp; done) | (simp; omega) | (simp at *; omega)))))))
  have b1 : w.heap.size ≤ w1.heap.size := by omega
  clear hbw1
  go_wp2_with ((go_at_call 6; ((with_reducible refine (short_any A P.length cap _ true hx (by omega)).mono ?_)); rintro e w' ⟨rfl, rfl⟩))
  go_wp2_with fail
  refine (refCheckParts_is P A cap c _ hl (by exact HS.out.below (by (repeat (first | (with_reducible refine Below.drew ?_) | (with_reducible refine below_drewN ?_ _) | (with_reducible refine Below.alloc ?_ (by first | omega | (simp; done) | (simp; omega) | (simp at *; omega)) _) | (with_reducible refine Below.setCell ?_ (by first | omega | (simp; done) | (simp; omega) | (simp at *; omega)) _) | (with_reducible exact Below.refl _ _) | (with_reducible assumption) | (with_reducible refine Below.trans ?_ (Below.mono (by assumption) (by first | omega | (simp; done) | (simp; omega) | (simp at *; omega)))))))) hc).mono ?_
  rintro e w2 ⟨rfl, hbw2⟩
  have z2 := hbw2.size
  try simp at z2
  have hB2 : Below w.heap.size w w2 := (by (repeat (first | (with_reducible refine Below.drew ?_) | (with_reducible refine below_drewN ?_ _) | (with_reducible refine Below.alloc ?_ (by first | omega | (simp; done) | (simp; omega) | (simp at *; omega)) _) | (with_reducible refine Below.setCell ?_ (by first | omega | (simp; done) | (simp; omega) | (simp at *; omega)) _) | (with_reducible exact Below.refl _ _) | (with_reducible assumption) | (with_reducible refine Below.trans ?_ (Below.mono (by assumption) (by first | omega | (simp; done) | (simp; omega) | (simp at *; omega)))))))
  clear hbw2
  go_wp2
  go_ret
  exact ⟨rfl, (by (repeat (first | (with_reducible refine Below.drew ?_) | (with_reducible refine below_drewN ?_ _) | (with_reducible refine Below.alloc ?_ (by first | omega | (simp; done) | (simp; omega) | (simp at *; omega)) _) | (with_reducible refine Below.setCell ?_ (by first | omega | (simp; done) | (simp; omega) | (simp at *; omega)) _) | (with_reducible exact Below.refl _ _) | (with_reducible assumption) | (with_reducible refine Below.trans ?_ (Below.mono (by assumption) (by first | omega | (simp; done) | (simp; omega) | (simp at *; omega)))))))⟩
theorem between_bd {P : List Part} (hc : checkPartsE P = 0) (lo0 lo1 hi0 hi1 : Int) (e0 : Hid (lowF Part.o P = lo0)) (e1 : Hid (lowF Part.h P = lo1)) (f0 : Hid (highF Part.o P = hi0)) (f1 : Hid (highF Part.h P = hi1)) (E0 : mixD P 0 ≤ 1000000000) (E1 : mixD P 1 ≤ 1000000000) :
    (lo0 * mixD P 0 ≤ 1000 * mixN P 0 ∧ 1000 * mixN P 0 ≤ hi0 * mixD P 0) ∧ (lo1 * mixD P 1 ≤ 1000 * mixN P 1 ∧ 1000 * mixN P 1 ≤ hi1 * mixD P 1) ∧ (0 ≤ lo0 * mixD P 0 ∧ lo0 * mixD P 0 ≤ 1000000000000 ∧ 0 ≤ hi0 * mixD P 0 ∧ hi0 * mixD P 0 ≤ 1000000000000) ∧ (0 ≤ lo1 * mixD P 1 ∧ lo1 * mixD P 1 ≤ 1000000000000 ∧ 0 ≤ hi1 * mixD P 1 ∧ hi1 * mixD P 1 ≤ 1000000000000) := by
  obtain ⟨hl, hR, hn⟩ := checkPartsE_z hc
  have d0 := (mix_bd hl hR hn 0).2.2
  have d1 := (mix_bd hl hR hn 1).2.2
  have l0 := lowF_bd (f := Part.o) (P := P) fun p hp => ⟨(hR p hp).o0, (hR p hp).o1⟩
  have l1 := lowF_bd (f := Part.h) (P := P) fun p hp => ⟨(hR p hp).h0, (hR p hp).h1⟩
  have g0 := highF_bd (f := Part.o) (P := P) fun p hp => ⟨(hR p hp).o0, (hR p hp).o1⟩
  have g1 := highF_bd (f := Part.h) (P := P) fun p hp => ⟨(hR p hp).h0, (hR p hp).h1⟩
  have a0 := low_mix hc 0 Part.o rfl lo0 fun p hp => by rw [← e0.out]; exact lowF_le hp
  have a1 := low_mix hc 1 Part.h rfl lo1 fun p hp => by rw [← e1.out]; exact lowF_le hp
  have b0 := high_mix hc 0 Part.o rfl hi0 fun p hp => by rw [← f0.out]; exact highF_ge hp
  have b1 := high_mix hc 1 Part.h rfl hi1 fun p hp => by rw [← f1.out]; exact highF_ge hp
  rw [e0.out] at l0
  rw [e1.out] at l1
  rw [f0.out] at g0
  rw [f1.out] at g1
  have up : ∀ {x d : Int}, 0 ≤ x → x ≤ 1000 → 1 ≤ d → d ≤ 1000000000 → 0 ≤ x * d ∧ x * d ≤ 1000000000000 := fun x0 x1 y0 y1 => ⟨Int.mul_nonneg x0 (by omega), Int.le_trans (Int.mul_le_mul x1 y1 (by omega) (by omega)) (by omega)⟩
  have c0 := up l0.1 l0.2 d0 E0
  have c1 := up l1.1 l1.2 d1 E1
  have c2 := up g0.1 g0.2 d0 E0
  have c3 := up g1.1 g1.2 d1 E1
  exact ⟨⟨a0, b0⟩, ⟨a1, b1⟩, ⟨c0.1, c0.2, c2.1, c2.2⟩, ⟨c1.1, c1.2, c3.1, c3.2⟩⟩
theorem gasBetween_any (P : List Part) (A : Option Addr) (cap : Nat) (w : World) (m : Int) (hm : w.cell? ⟨1, 0, none⟩ = some (.int .i64 m)) (hl : P.length ≤ 9223372036854775807) (hA : A = none → cap = 0) (hS : PSl w A P) :
    Calls Tryd.prog 3 #[.slice A P.length cap] w fun e w' => e = .returned (.bool true) ∧ Below w.heap.size w w' := by
  by_cases hx : P.length ≤ 15
  · have hx' : decide (P.length ≤ 15) = true := by simpa using hx
    rcases ez (checkPartsE P) with ⟨hc, hcb⟩ | ⟨hc, hcb⟩
    · have h0 : checkPartsE P = 0 := by simpa using hcb
      obtain ⟨hl12, hR, hn⟩ := checkPartsE_z h0
      rcases hS with rfl | ⟨b0, off, rfl, hlt, hP⟩
      · exact absurd h0 (by decide)
      have no : ¬ (mixD P 0 ≤ 1000000000 ∧ mixD P 1 ≤ 1000000000 ∧ mixD P 2 ≤ 1000000000) → mixE P = 8 ∧ ∀ j, mixR P j = 0 := fun h => by
        have e : mixE P = 8 := by unfold mixE; rw [if_pos h0, if_neg h]
        exact ⟨e, fun j => by unfold mixR; rw [e]; rfl⟩
      by_cases hd : mixD P 0 ≤ 1000000000 ∧ mixD P 1 ≤ 1000000000 ∧ mixD P 2 ≤ 1000000000
      · have e : mixE P = 0 := by unfold mixE; rw [if_pos h0, if_pos hd]
        have r : ∀ j, mixR P j = mixV P 3 j := fun j => by unfold mixR; rw [e]; rfl
        obtain ⟨E0, E1, E2⟩ := hd
        obtain ⟨N0, S0, D0⟩ := mix_bd hl12 hR hn 0
        obtain ⟨N1, S1, D1⟩ := mix_bd hl12 hR hn 1
        obtain ⟨N2, S2, D2⟩ := mix_bd hl12 hR hn 2
        have br := both_rest h0 _ _ _ _ _ _ _ rfl rfl rfl rfl rfl rfl rfl
        have FC := fun lo0 lo1 hi0 hi1 e0 e1 f0 f1 => between_bd h0 lo0 lo1 hi0 hi1 e0 e1 f0 f1 E0 E1
        have gp := gcdI_pos (mixD P 0) (mixD P 1) (by omega)
        have gm := gcd_mul_n (mixD P 0) (mixD P 1)
        obtain ⟨g, hg⟩ : ∃ g, gcdI (mixD P 0) (mixD P 1) = g := ⟨_, rfl⟩
        rw [hg] at br gp gm
        have a0 : 0 ≤ mixD P 1 / g := Int.ediv_nonneg (by omega) (by omega)
        have a1 : mixD P 1 / g ≤ 1000000000 := Int.le_trans (Int.ediv_le_self _ (by omega)) E1
        have b0' : 0 ≤ mixD P 0 / g := Int.ediv_nonneg (by omega) (by omega)
        have b1 : mixD P 0 / g ≤ 1000000000 := Int.le_trans (Int.ediv_le_self _ (by omega)) E0
        have bp : 0 < mixD P 0 / g := by
          rcases Int.lt_or_le 0 (mixD P 0 / g) with h | h
          · exact h
          · exfalso
            have := Int.mul_nonpos_of_nonpos_of_nonneg h (Int.le_of_lt gp)
            omega
        have m1 := mul9 N0 (by omega) a0 a1
        have m2 := mul9 N1 (by omega) b0' b1
        have m3 := mul9 b0' b1 (show 0 ≤ mixD P 1 by omega) E1
        have m4 : 0 < mixD P 0 / g * mixD P 1 := Int.mul_pos bp (by omega)
        exact blaw_s P b0 off cap w m hm hl12 hlt hP h0 e (mixN P 0) (mixD P 0) (mixN P 1) (mixD P 1) (mixN P 2) (mixD P 2) (r 0) (r 1) (r 2) (r 3) (r 4) (r 5) N0 D0 E0 S0 N1 D1 E1 S1 N2 D2 E2 S2 FC _ _ g (mixD P 1 / g) (mixD P 0 / g) (mixN P 0 * (mixD P 1 / g)) (mixN P 1 * (mixD P 0 / g)) (mixN P 0 * (mixD P 1 / g) + mixN P 1 * (mixD P 0 / g)) (mixD P 0 / g * mixD P 1) rfl rfl hg (by omega) rfl a0 a1 rfl b0' b1 (IntWalk.i64_in _ (by omega)) (IntWalk.i64_in _ (by omega)) (IntWalk.i64_in _ (by omega)) (IntWalk.i64_in _ (by omega)) (by omega) (by omega) m4 (by omega) br.1 br.2 (inB_true D0 E0) (inB_true D1 E1)
      · obtain ⟨e, r⟩ := no hd
        exact blaw_l P b0 off cap w m hm hl12 hlt hP h0 e (r 0) (r 1) (r 2) (r 3) (r 4) (r 5)
    · exact blaw_err P A cap w m hm (by omega) hx' hS _ rfl hcb
  · exact blaw_big P A cap w m hm hl (by show _ = _; simpa using hx)
end Go.Proofs.YtlhogcbodgimdaaDoor
