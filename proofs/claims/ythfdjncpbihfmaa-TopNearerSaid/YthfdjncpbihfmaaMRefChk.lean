import Derived.Test.YthfdjncpbihfmaaTInside
import Derived.Outline
import Derived.Test.YthfdjncpbihfmaaMLimits
import Derived.Deep.DrawnRows
/- The specification's checks of loads, and whether loads lie in others: shotlineref03.span, CheckLoad, inside, Inside. -/
namespace Go.Proofs.Ythfdjncpbihfmaa
open Go.ChangeShapes Go.WideShapes Go.ChangeAt Go.RowKit
set_option linter.unusedVariables false
set_option linter.unusedSimpArgs false
attribute [local go_sem ↓] Go.wp_at_zero Go.wp_at_succ
end Go.Proofs.Ythfdjncpbihfmaa

/- The specification's checks of compartments, tables and loads; the statements' small functions. -/
namespace Go.Proofs.Ythfdjncpbihfmaa
open Go.ChangeShapes Go.WideShapes Go.ChangeAt Go.RowKit
set_option linter.unusedVariables false
set_option linter.unusedSimpArgs false
attribute [local go_sem ↓] Go.wp_at_zero Go.wp_at_succ
theorem bWi (n a b : Int) (r : Bool) (w : World) (h : inB n a b = r) : Calls Try.prog 16 #[.int .i64 n, .int .i64 a, .int .i64 b] w fun e w' => e = .returned (.bool r) ∧ w = w' := by rw [← h]; exact baseWithin_any n a b w
theorem cmpE_at {n h b s : Int} (k1 : inB n 1 100000 = true) (k2 : inB h 1 100000 = true) (k3 : inB b 0 10000 = true) (k4 : inB s 1000 10000 = true) : cmpE n h b s = 0 := by rw [cmpE, rngE_t k1, rngE_t k2, rngE_t k3, rngE_t k4]; rfl
theorem cmpE_1 {n h b s : Int} (k1 : inB n 1 100000 = false) : cmpE n h b s = 2 := by rw [cmpE, rngE_f k1]; rfl
theorem cmpE_2 {n h b s : Int} (k1 : inB n 1 100000 = true) (k2 : inB h 1 100000 = false) : cmpE n h b s = 2 := by rw [cmpE, rngE_t k1, rngE_f k2]; rfl
theorem cmpE_3 {n h b s : Int} (k1 : inB n 1 100000 = true) (k2 : inB h 1 100000 = true) (k3 : inB b 0 10000 = false) : cmpE n h b s = 2 := by rw [cmpE, rngE_t k1, rngE_t k2, rngE_f k3]; rfl
theorem cmpE_4 {n h b s : Int} (k1 : inB n 1 100000 = true) (k2 : inB h 1 100000 = true) (k3 : inB b 0 10000 = true) (k4 : inB s 1000 10000 = false) : cmpE n h b s = 2 := by rw [cmpE, rngE_t k1, rngE_t k2, rngE_t k3, rngE_f k4]; rfl
set_option maxHeartbeats 1000000 in
theorem refCheckComp_is (n h b s r : Int) (w : World) (hr : Hid (cmpE n h b s = r)) :
    Calls Try.prog 17 #[.agg #[.int .i64 n, .int .i64 h, .int .i64 b, .int .i64 s]] w fun e w' => e = .returned (.int .i64 r) ∧ Below w.heap.size w w' := by
  rcases inB_cases n 1 100000 with k1 | k1
  · rcases inB_cases h 1 100000 with k2 | k2
    · rcases inB_cases b 0 10000 with k3 | k3
      · rcases inB_cases s 1000 10000 with k4 | k4
        · have H0 := Lib.hid (fun w => bWi n 1 100000 true w k1)
          have H1 := Lib.hid (fun w => bWi h 1 100000 true w k2)
          have H2 := Lib.hid (fun w => bWi b 0 10000 true w k3)
          have H3 := Lib.hid (fun w => bWi s 1000 10000 true w k4)
          have hv : Hid (r = 0) := by show _ = _; rw [← hr.out]; exact cmpE_at k1 k2 k3 k4
          clear k1 k2 k3 k4 hr
          go_enter Try.func17, Try.ntmps17
          go_wp2_with (first | (go_at_call 16; ((with_reducible refine (H0.out _).mono ?_)); rintro e w' ⟨rfl, rfl⟩) | (go_at_call 16; ((with_reducible refine (H1.out _).mono ?_)); rintro e w' ⟨rfl, rfl⟩) | (go_at_call 16; ((with_reducible refine (H2.out _).mono ?_)); rintro e w' ⟨rfl, rfl⟩) | (go_at_call 16; ((with_reducible refine (H3.out _).mono ?_)); rintro e w' ⟨rfl, rfl⟩))
          go_ret
          exact ⟨ret_int hv.out.symm, (by (repeat (first | (with_reducible refine Below.drew ?_) | (with_reducible refine below_drewN ?_ _) | (with_reducible refine Below.alloc ?_ (by first | omega | (simp; done) | (simp; omega) | (simp at *; omega)) _) | (with_reducible refine Below.setCell ?_ (by first | omega | (simp; done) | (simp; omega) | (simp at *; omega)) _) | (with_reducible exact Below.refl _ _) | (with_reducible assumption) | (with_reducible refine Below.trans ?_ (Below.mono (by assumption) (by first | omega | (simp; done) | (simp; omega) | (simp at *; omega)))))))⟩
        · have H0 := Lib.hid (fun w => bWi n 1 100000 true w k1)
          have H1 := Lib.hid (fun w => bWi h 1 100000 true w k2)
          have H2 := Lib.hid (fun w => bWi b 0 10000 true w k3)
          have H3 := Lib.hid (fun w => bWi s 1000 10000 false w k4)
          have hv : Hid (r = 2) := by show _ = _; rw [← hr.out]; exact cmpE_4 k1 k2 k3 k4
          clear k1 k2 k3 k4 hr
          go_enter Try.func17, Try.ntmps17
          go_wp2_with (first | (go_at_call 16; ((with_reducible refine (H0.out _).mono ?_)); rintro e w' ⟨rfl, rfl⟩) | (go_at_call 16; ((with_reducible refine (H1.out _).mono ?_)); rintro e w' ⟨rfl, rfl⟩) | (go_at_call 16; ((with_reducible refine (H2.out _).mono ?_)); rintro e w' ⟨rfl, rfl⟩) | (go_at_call 16; ((with_reducible refine (H3.out _).mono ?_)); rintro e w' ⟨rfl, rfl⟩))
          go_ret
          exact ⟨ret_int hv.out.symm, (by (repeat (first | (with_reducible refine Below.drew ?_) | (with_reducible refine below_drewN ?_ _) | (with_reducible refine Below.alloc ?_ (by first | omega | (simp; done) | (simp; omega) | (simp at *; omega)) _) | (with_reducible refine Below.setCell ?_ (by first | omega | (simp; done) | (simp; omega) | (simp at *; omega)) _) | (with_reducible exact Below.refl _ _) | (with_reducible assumption) | (with_reducible refine Below.trans ?_ (Below.mono (by assumption) (by first | omega | (simp; done) | (simp; omega) | (simp at *; omega)))))))⟩
      · have H0 := Lib.hid (fun w => bWi n 1 100000 true w k1)
        have H1 := Lib.hid (fun w => bWi h 1 100000 true w k2)
        have H2 := Lib.hid (fun w => bWi b 0 10000 false w k3)
        have hv : Hid (r = 2) := by show _ = _; rw [← hr.out]; exact cmpE_3 k1 k2 k3
        clear k1 k2 k3 hr
        go_enter Try.func17, Try.ntmps17
        go_wp2_with (first | (go_at_call 16; ((with_reducible refine (H0.out _).mono ?_)); rintro e w' ⟨rfl, rfl⟩) | (go_at_call 16; ((with_reducible refine (H1.out _).mono ?_)); rintro e w' ⟨rfl, rfl⟩) | (go_at_call 16; ((with_reducible refine (H2.out _).mono ?_)); rintro e w' ⟨rfl, rfl⟩))
        go_ret
        exact ⟨ret_int hv.out.symm, (by (repeat (first | (with_reducible refine Below.drew ?_) | (with_reducible refine below_drewN ?_ _) | (with_reducible refine Below.alloc ?_ (by first | omega | (simp; done) | (simp; omega) | (simp at *; omega)) _) | (with_reducible refine Below.setCell ?_ (by first | omega | (simp; done) | (simp; omega) | (simp at *; omega)) _) | (with_reducible exact Below.refl _ _) | (with_reducible assumption) | (with_reducible refine Below.trans ?_ (Below.mono (by assumption) (by first | omega | (simp; done) | (simp; omega) | (simp at *; omega)))))))⟩
    · have H0 := Lib.hid (fun w => bWi n 1 100000 true w k1)
      have H1 := Lib.hid (fun w => bWi h 1 100000 false w k2)
      have hv : Hid (r = 2) := by show _ = _; rw [← hr.out]; exact cmpE_2 k1 k2
      clear k1 k2 hr
      go_enter Try.func17, Try.ntmps17
      go_wp2_with (first | (go_at_call 16; ((with_reducible refine (H0.out _).mono ?_)); rintro e w' ⟨rfl, rfl⟩) | (go_at_call 16; ((with_reducible refine (H1.out _).mono ?_)); rintro e w' ⟨rfl, rfl⟩))
      go_ret
      exact ⟨ret_int hv.out.symm, (by (repeat (first | (with_reducible refine Below.drew ?_) | (with_reducible refine below_drewN ?_ _) | (with_reducible refine Below.alloc ?_ (by first | omega | (simp; done) | (simp; omega) | (simp at *; omega)) _) | (with_reducible refine Below.setCell ?_ (by first | omega | (simp; done) | (simp; omega) | (simp at *; omega)) _) | (with_reducible exact Below.refl _ _) | (with_reducible assumption) | (with_reducible refine Below.trans ?_ (Below.mono (by assumption) (by first | omega | (simp; done) | (simp; omega) | (simp at *; omega)))))))⟩
  · have H0 := Lib.hid (fun w => bWi n 1 100000 false w k1)
    have hv : Hid (r = 2) := by show _ = _; rw [← hr.out]; exact cmpE_1 k1
    clear k1 hr
    go_enter Try.func17, Try.ntmps17
    go_wp2_with (first | (go_at_call 16; ((with_reducible refine (H0.out _).mono ?_)); rintro e w' ⟨rfl, rfl⟩))
    go_ret
    exact ⟨ret_int hv.out.symm, (by (repeat (first | (with_reducible refine Below.drew ?_) | (with_reducible refine below_drewN ?_ _) | (with_reducible refine Below.alloc ?_ (by first | omega | (simp; done) | (simp; omega) | (simp at *; omega)) _) | (with_reducible refine Below.setCell ?_ (by first | omega | (simp; done) | (simp; omega) | (simp at *; omega)) _) | (with_reducible exact Below.refl _ _) | (with_reducible assumption) | (with_reducible refine Below.trans ?_ (Below.mono (by assumption) (by first | omega | (simp; done) | (simp; omega) | (simp at *; omega)))))))⟩
set_option maxHeartbeats 1000000 in
theorem refCheckTable_any (T : List Cm) (A : Option Addr) (cap : Nat) (w : World) (hl : T.length ≤ 9223372036854775807) (hT : SlCm w A T) :
    Calls Try.prog 5 #[.slice A T.length cap] w fun e w' => e = .returned (.int .i64 (tabE T)) ∧ Below w.heap.size w w' := by
  have HT := Lib.hid hT
  clear hT
  rcases inB_cases (T.length : Int) 1 16 with h1 | h1
  · have HW := Lib.hid (fun w => bWi (T.length : Int) 1 16 true w h1)
    obtain ⟨E, hE⟩ : ∃ x, Hid (fstE compE T = x) := ⟨_, rfl⟩
    have HE : tabE T = E := by rw [tabE, if_pos h1, hE.out]
    rw [HE]
    have l0 := (inB_iff.1 h1).2
    clear HE h1
    go_enter Try.func5, Try.ntmps5
    go_wp2_with ((go_at_call 16; ((with_reducible refine (HW.out _).mono ?_)); rintro e w' ⟨rfl, rfl⟩))
    go_loopw [3] (fun i wr => ∃ k : Nat, k ≤ T.length ∧ i = .int .i64 k ∧ Hid (∀ j, (hj : j < k) → (hj' : j < T.length) → compE T[j] = 0) ∧ Below w.heap.size w wr) (fun i _ => T.length - (intOf i).toNat)
    case atStart => exact ⟨0, by omega, rfl, fun j hj => by omega, (by (repeat (first | (with_reducible refine Below.drew ?_) | (with_reducible refine below_drewN ?_ _) | (with_reducible refine Below.alloc ?_ (by first | omega | (simp; done) | (simp; omega) | (simp at *; omega)) _) | (with_reducible refine Below.setCell ?_ (by first | omega | (simp; done) | (simp; omega) | (simp at *; omega)) _) | (with_reducible exact Below.refl _ _) | (with_reducible assumption) | (with_reducible refine Below.trans ?_ (Below.mono (by assumption) (by first | omega | (simp; done) | (simp; omega) | (simp at *; omega)))))))⟩
    case round =>
      obtain ⟨k, hk, rfl, hz, hB⟩ := hrel
      by_cases hkl : k < T.length
      · have hkl2 : (k : Int) < T.length := by omega
        rcases (HT.out.below hB : SlCm wr A T) with hnil | ⟨pb, po, hAA, plt, PL⟩
        · rw [hnil] at hkl; simp at hkl
        subst hAA
        obtain ⟨c0, c1, c2, c3⟩ := PL k hkl
        obtain ⟨r, hr⟩ : ∃ r, Hid (cmpE T[k].n T[k].h T[k].b T[k].s = r) := ⟨_, Lib.hid rfl⟩
        obtain ⟨p0, hp0⟩ : ∃ x, Hid (T[k].n = x) := ⟨T[k].n, Lib.hid rfl⟩
        obtain ⟨p1, hp1⟩ : ∃ x, Hid (T[k].h = x) := ⟨T[k].h, Lib.hid rfl⟩
        obtain ⟨p2, hp2⟩ : ∃ x, Hid (T[k].b = x) := ⟨T[k].b, Lib.hid rfl⟩
        obtain ⟨p3, hp3⟩ : ∃ x, Hid (T[k].s = x) := ⟨T[k].s, Lib.hid rfl⟩
        have hl9 : Hid (compE T[k] = r) := hr
        rw [hp0.out, hp1.out, hp2.out, hp3.out] at hr
        rw [hp0.out] at c0
        rw [hp1.out] at c1
        rw [hp2.out] at c2
        rw [hp3.out] at c3
        clear PL hp0 hp1 hp2 hp3
        go_wp2_with fail
        refine (refCheckComp_is p0 p1 p2 p3 r _ hr).mono ?_
        rintro e w9 ⟨rfl, hb9⟩
        have hB9 : Below w.heap.size w w9 := hB.trans (hb9.mono hB.size)
        clear hb9 hB c0 c1 c2 c3
        rcases ez2 r with ⟨hz0, hzb⟩ | ⟨hz0, hzb⟩
        · go_wp2
          go_roundw
          case rel =>
            refine ⟨k + 1, by omega, by go_num, ?_, hB9⟩
            exact fun j hj hj' => by
              by_cases e : j = k
              · subst e; rw [hl9.out, hz0.out]
              · exact hz.out j (by omega) hj'
          case measure => simp [intOf]; omega
        · have hv : Hid (E = r) := by show _ = _; rw [← hE.out, fstE_at hkl (fun j hj => hz.out j hj (by omega)) (by rw [hl9.out]; exact hz0.out), hl9.out]
          clear hz0
          go_wp2
          go_ret
          exact ⟨ret_int hv.out.symm, hB9⟩
      · have hkl2 : ¬ (k : Int) < T.length := by omega
        have hv : Hid (E = 0) := by show _ = _; rw [← hE.out]; exact fstE_z fun j hj => hz.out j (by omega) hj
        go_wp2
        go_ret
        exact ⟨ret_int hv.out.symm, hB⟩
  · have HW := Lib.hid (fun w => bWi (T.length : Int) 1 16 false w h1)
    have HE : tabE T = 10 := by rw [tabE, if_neg (by rw [h1]; exact Bool.false_ne_true)]
    rw [HE]
    clear HE h1
    go_enter Try.func5, Try.ntmps5
    go_wp2_with ((go_at_call 16; ((with_reducible refine (HW.out _).mono ?_)); rintro e w' ⟨rfl, rfl⟩))
    go_ret
    exact ⟨rfl, (by (repeat (first | (with_reducible refine Below.drew ?_) | (with_reducible refine below_drewN ?_ _) | (with_reducible refine Below.alloc ?_ (by first | omega | (simp; done) | (simp; omega) | (simp at *; omega)) _) | (with_reducible refine Below.setCell ?_ (by first | omega | (simp; done) | (simp; omega) | (simp at *; omega)) _) | (with_reducible exact Below.refl _ _) | (with_reducible assumption) | (with_reducible refine Below.trans ?_ (Below.mono (by assumption) (by first | omega | (simp; done) | (simp; omega) | (simp at *; omega)))))))⟩
theorem refCheckTable_is (T : List Cm) (A : Option Addr) (cap : Nat) (r : Int) (w : World) (hl : T.length ≤ 9223372036854775807) (hr : Hid (tabE T = r)) (hT : SlCm w A T) :
    Calls Try.prog 5 #[.slice A T.length cap] w fun e w' => e = .returned (.int .i64 r) ∧ Below w.heap.size w w' := by
  rw [← hr.out]; exact refCheckTable_any T A cap w hl hT
theorem isPressure_is (n : Int) (r : Bool) (w : World) (h : Hid (inB n 400 31100 = r)) : Calls Try.prog 18 #[.int .i64 n] w fun e w' => e = .returned (.bool r) ∧ w = w' := by
  have HW := Lib.hid (fun w => bWi n 400 31100 r w h.out)
  go_enter Try.func18, Try.ntmps18
  go_wp2_with ((go_at_call 16; ((with_reducible refine (HW.out _).mono ?_)); rintro e w' ⟨rfl, rfl⟩))
  go_ret
  exact ⟨rfl, rfl⟩
/-- Whether a table has at most 4 compartments, or too many. -/
def fewB (n : Nat) : Bool := decide (n ≤ 4) || (decide (16 < n) && decide (n ≤ 18))
end Go.Proofs.Ythfdjncpbihfmaa
