import Derived.Test.YtgidmmmdpmophaaRSFECpR
import Derived.Test.YtgidmmmdpmophaaRSFLeaf
import Derived.Outline
import Derived.BigQuiet
namespace Go.Proofs.Ytgidmmmdpmophaa
open Go.ChangeShapes Go.WideShapes Go.ChangeAt Go.RowKit
set_option linter.unusedVariables false
set_option linter.unusedSimpArgs false
attribute [local go_sem ↓] Go.wp_at_zero Go.wp_at_succ

/-- At most 6 rows, or a few too many. -/
def fewB (n : Nat) : Bool := decide (n ≤ 6) || (decide (20 < n) && decide (n ≤ 22))
theorem few_is (r : Ru) (A : Option Addr) (n cap : Nat) (p : Bool) (w : World) (hl : n ≤ 9223372036854775807) (hp : Hid (fewB n = p)) :
    Calls Try.prog 24 #[.agg #[.slice A n cap, .int .i64 r.a, .int .i64 r.b, .int .i64 r.nc, .int .i64 r.dn, .int .i64 r.br, .int .i64 r.em, .int .i64 r.pa, .int .i64 r.sc]] w fun e w' => e = .returned (.bool p) ∧ Below w.heap.size w w' := by
  have he := hp.out
  unfold fewB at he
  clear hp
  have hc : n ≤ 6 ∨ (6 < n ∧ n ≤ 20) ∨ (20 < n ∧ n ≤ 22) ∨ 22 < n := by omega
  rcases hc with h | ⟨h, h2⟩ | ⟨h, h2⟩ | h
  · have HE : Hid (p = true) := Lib.hid (by rw [← he]; simp [h])
    have i1 : (n : Int) ≤ 6 := by omega
    clear he h
    go_enter Try.func24, Try.ntmps24
    go_wp2
    go_ret
    exact ⟨ret_bool HE.out.symm, (by (repeat (first | (with_reducible refine Below.drew ?_) | (with_reducible refine below_drewN ?_ _) | (with_reducible refine Below.alloc ?_ (by first | omega | (simp; done) | (simp; omega) | (simp at *; omega)) _) | (with_reducible refine Below.setCell ?_ (by first | omega | (simp; done) | (simp; omega) | (simp at *; omega)) _) | (with_reducible exact Below.refl _ _) | (with_reducible assumption) | (with_reducible refine Below.trans ?_ (Below.mono (by assumption) (by first | omega | (simp; done) | (simp; omega) | (simp at *; omega)))))))⟩
  · have HE : Hid (p = false) := Lib.hid (by rw [← he]; simp; omega)
    have i1 : ¬ (n : Int) ≤ 6 := by omega
    have i2 : ¬ (20 : Int) < n := by omega
    clear he h h2
    go_enter Try.func24, Try.ntmps24
    go_wp2
    go_ret
    exact ⟨ret_bool HE.out.symm, (by (repeat (first | (with_reducible refine Below.drew ?_) | (with_reducible refine below_drewN ?_ _) | (with_reducible refine Below.alloc ?_ (by first | omega | (simp; done) | (simp; omega) | (simp at *; omega)) _) | (with_reducible refine Below.setCell ?_ (by first | omega | (simp; done) | (simp; omega) | (simp at *; omega)) _) | (with_reducible exact Below.refl _ _) | (with_reducible assumption) | (with_reducible refine Below.trans ?_ (Below.mono (by assumption) (by first | omega | (simp; done) | (simp; omega) | (simp at *; omega)))))))⟩
  · have HE : Hid (p = true) := Lib.hid (by rw [← he]; simp; omega)
    have i1 : ¬ (n : Int) ≤ 6 := by omega
    have i2 : (20 : Int) < n := by omega
    have i3 : (n : Int) ≤ 22 := by omega
    clear he h h2
    go_enter Try.func24, Try.ntmps24
    go_wp2
    go_ret
    exact ⟨ret_bool HE.out.symm, (by (repeat (first | (with_reducible refine Below.drew ?_) | (with_reducible refine below_drewN ?_ _) | (with_reducible refine Below.alloc ?_ (by first | omega | (simp; done) | (simp; omega) | (simp at *; omega)) _) | (with_reducible refine Below.setCell ?_ (by first | omega | (simp; done) | (simp; omega) | (simp at *; omega)) _) | (with_reducible exact Below.refl _ _) | (with_reducible assumption) | (with_reducible refine Below.trans ?_ (Below.mono (by assumption) (by first | omega | (simp; done) | (simp; omega) | (simp at *; omega)))))))⟩
  · have HE : Hid (p = false) := Lib.hid (by rw [← he]; simp; omega)
    have i1 : ¬ (n : Int) ≤ 6 := by omega
    have i2 : (20 : Int) < n := by omega
    have i3 : ¬ (n : Int) ≤ 22 := by omega
    clear he h
    go_enter Try.func24, Try.ntmps24
    go_wp2
    go_ret
    exact ⟨ret_bool HE.out.symm, (by (repeat (first | (with_reducible refine Below.drew ?_) | (with_reducible refine below_drewN ?_ _) | (with_reducible refine Below.alloc ?_ (by first | omega | (simp; done) | (simp; omega) | (simp at *; omega)) _) | (with_reducible refine Below.setCell ?_ (by first | omega | (simp; done) | (simp; omega) | (simp at *; omega)) _) | (with_reducible exact Below.refl _ _) | (with_reducible assumption) | (with_reducible refine Below.trans ?_ (Below.mono (by assumption) (by first | omega | (simp; done) | (simp; omega) | (simp at *; omega)))))))⟩
theorem fewB_le {n : Nat} (h : fewB n = true) : n ≤ 22 := by
  unfold fewB at h
  simp at h
  omega
theorem bW_r (n a b : Int) (r : Bool) (w : World) (h : Hid (inB n a b = r)) : Calls Try.prog 9 #[.int .i64 n, .int .i64 a, .int .i64 b] w fun e w' => e = .returned (.bool r) ∧ w = w' := by rw [← h.out]; exact baseWithin_any n a b w
theorem isBreath_any (n : Int) (w : World) : Calls Try.prog 49 #[.int .i64 n] w fun e w' => e = .returned (.bool (inB n 1 100000)) ∧ w = w' := by
  go_enter Try.func49, Try.ntmps49
  go_wp2_with ((go_at_call 9; ((with_reducible refine (baseWithin_any _ _ _ _).mono ?_)); rintro e w' ⟨rfl, rfl⟩))
  go_ret
  exact ⟨rfl, rfl⟩
theorem limE_val (a b : Int) : limE a b = if inB a 1 4000 = true ∧ inB b 1 4000 = true then (if a ≤ b then 0 else 9) else 2 := by
  unfold limE rng2E rngE
  rcases inB_cases a 1 4000 with h1 | h1 <;> rcases inB_cases b 1 4000 with h2 | h2 <;> simp [h1, h2, firE]
theorem refCheckLimits_any (a b : Int) (w : World) :
    Calls Try.prog 48 #[.agg #[.int .i64 a, .int .i64 b]] w fun e w' => e = .returned (.int .i64 (limE a b)) ∧ w.alloc (.cells #[.int .i64 a, .int .i64 b] 28) = w' := by
  obtain ⟨v, hv⟩ : ∃ v, Hid (limE a b = v) := ⟨_, rfl⟩
  rw [hv.out]
  by_cases h3 : a ≤ b
  all_goals
    rcases inB_cases a 1 4000 with h1 | h1 <;> rcases inB_cases b 1 4000 with h2 | h2
    all_goals
      go_enter Try.func48, Try.ntmps48
      go_wp2_with ((go_at_call 9; ((with_reducible refine (baseWithin_any _ _ _ _).mono ?_)); rintro e w' ⟨rfl, rfl⟩))
      go_ret
      exact ⟨ret_int (by rw [← hv.out, limE_val]; simp [h1, h2, h3]), rfl⟩
theorem ruE_val (T : List Ox) (r : Ru) : ruE T r = if oxE T ≠ 0 then oxE T else if limE r.a r.b ≠ 0 then limE r.a r.b else if inB r.nc 0 30000 = true ∧ inB r.dn 1 100000 = true ∧ inB r.br 1 100000 = true ∧ inB r.em 1 100000 = true ∧ inB r.pa 0 3600 = true ∧ inB r.sc 1 3000 = true then 0 else 2 := by
  unfold ruE ruL
  by_cases h0 : oxE T = 0
  · by_cases h1 : limE r.a r.b = 0
    · rw [h0, h1]
      unfold rngE
      rcases inB_cases r.nc 0 30000 with q1 | q1 <;> rcases inB_cases r.dn 1 100000 with q2 | q2 <;> rcases inB_cases r.br 1 100000 with q3 | q3 <;> rcases inB_cases r.em 1 100000 with q4 | q4 <;> rcases inB_cases r.pa 0 3600 with q5 | q5 <;> rcases inB_cases r.sc 1 3000 with q6 | q6 <;> simp [q1, q2, q3, q4, q5, q6, firE]
    · simp [firE, h0, h1]
  · simp [firE, h0]
set_option maxRecDepth 100000 in
set_option maxHeartbeats 4000000 in
theorem refCheckRules_any (T : List Ox) (r : Ru) (A : Option Addr) (n cap : Nat) (E : Int) (w : World) (hn : Hid (n = T.length)) (hl : n ≤ 9223372036854775807) (hT : Hid (SlRows oxV 2 w A T)) (hE : Hid (ruE T r = E)) :
    Calls Try.prog 25 #[.agg #[.slice A n cap, .int .i64 r.a, .int .i64 r.b, .int .i64 r.nc, .int .i64 r.dn, .int .i64 r.br, .int .i64 r.em, .int .i64 r.pa, .int .i64 r.sc]] w fun e w' => e = .returned (.int .i64 E) ∧ Below w.heap.size w w' := by
  have HE := hE
  clear hE
  by_cases h20 : 20 < n
  · have f8 : (20 : Int) < (n : Int) := by omega
    have hr : Hid (E = 8) := Lib.hid (by
      have : oxE T = 8 := by unfold oxE; rw [if_pos (by have := hn.out; omega)]
      rw [← HE.out, ruE_val, this, if_pos (by decide)])
    go_enter Try.func25, Try.ntmps25
    go_wp2
    go_ret
    exact ⟨ret_int hr.out.symm, (by (repeat (first | (with_reducible refine Below.drew ?_) | (with_reducible refine below_drewN ?_ _) | (with_reducible refine Below.alloc ?_ (by first | omega | (simp; done) | (simp; omega) | (simp at *; omega)) _) | (with_reducible refine Below.setCell ?_ (by first | omega | (simp; done) | (simp; omega) | (simp at *; omega)) _) | (with_reducible exact Below.refl _ _) | (with_reducible assumption) | (with_reducible refine Below.trans ?_ (Below.mono (by assumption) (by first | omega | (simp; done) | (simp; omega) | (simp at *; omega)))))))⟩
  have f8 : ¬ (20 : Int) < (n : Int) := by omega
  have HX : Hid (oxE T = fstI (oxK T) (List.range T.length)) := Lib.hid (by unfold oxE; rw [if_neg (by have := hn.out; omega)])
  go_enter Try.func25, Try.ntmps25
  go_wp2_with fail
  go_loopw [3] (fun i wr => ∃ k : Nat, k ≤ n ∧ i = .int .i64 k ∧ Hid (∀ j, j < k → oxK T j = 0) ∧ Hid (BlkF wr w.heap.size w.heap.size [.slice A n cap, .int .i64 r.a, .int .i64 r.b, .int .i64 r.nc, .int .i64 r.dn, .int .i64 r.br, .int .i64 r.em, .int .i64 r.pa, .int .i64 r.sc]) ∧ Below w.heap.size w wr) (fun i _ => n - (intOf i).toNat)
  case atStart => exact ⟨0, by omega, rfl, Lib.hid fun j hj => absurd hj (by omega), Lib.hid (BlkF.made (B := w.heap.size) w [.slice A n cap, .int .i64 r.a, .int .i64 r.b, .int .i64 r.nc, .int .i64 r.dn, .int .i64 r.br, .int .i64 r.em, .int .i64 r.pa, .int .i64 r.sc] 30 (Nat.le_refl _)), (by (repeat (first | (with_reducible refine Below.drew ?_) | (with_reducible refine below_drewN ?_ _) | (with_reducible refine Below.alloc ?_ (by first | omega | (simp; done) | (simp; omega) | (simp at *; omega)) _) | (with_reducible refine Below.setCell ?_ (by first | omega | (simp; done) | (simp; omega) | (simp at *; omega)) _) | (with_reducible exact Below.refl _ _) | (with_reducible assumption) | (with_reducible refine Below.trans ?_ (Below.mono (by assumption) (by first | omega | (simp; done) | (simp; omega) | (simp at *; omega)))))))⟩
  case round =>
    obtain ⟨k, hk, rfl, hz, hP, hB⟩ := hrel
    have zb := hB.size
    obtain ⟨c0, c1, c2, c3, c4, c5, c6, c7, c8⟩ := b9 hP.out
    by_cases hkn : k < n
    · have kn : (k : Int) < (n : Int) := by omega
      have hkT : k < T.length := by have := hn.out; omega
      obtain ⟨b, o, rfl, hlt, hR⟩ := (hT.out.below hB).at' hkT
      obtain ⟨d0, d1⟩ := ox_at hR hkT
      obtain ⟨fr, hfr⟩ : ∃ z, Hid (T[k].f = z) := ⟨_, Lib.hid rfl⟩
      obtain ⟨rt, hrt⟩ : ∃ z, Hid (T[k].r = z) := ⟨_, Lib.hid rfl⟩
      rw [hfr.out] at d0
      rw [hrt.out] at d1
      have hK : Hid (oxK T k = if (inB fr 0 4000 && inB rt 0 100000) = false then 2 else if 0 < k ∧ fr ≤ (T.getD (k - 1) default).f then 9 else 0) := Lib.hid (by unfold oxK; rw [getD_at hkT, hfr.out, hrt.out])
      have hstop : Hid (¬ oxK T k = 0 → E = oxK T k) := Lib.hid fun h => by
        have hkr : k < (List.range T.length).length := by simpa using hkT
        have := @fstI_stop _ (oxK T) (List.range T.length) k hkr (fun j hj => by simpa using hz.out j hj) (by simpa using h)
        have hoe : oxE T = oxK T k := by rw [HX.out, this]; simp
        rw [← HE.out, ruE_val, hoe, if_pos h]
      have hnext : Hid (oxK T k = 0 → ∀ j, j < k + 1 → oxK T j = 0) := Lib.hid fun h j hj => by
        by_cases e : j = k
        · rw [e]; exact h
        · exact hz.out j (by omega)
      clear hz
      by_cases h1 : inB fr 0 4000 = true
      · have H1 := Lib.hid h1
        by_cases h2 : inB rt 0 100000 = true
        · have H2 := Lib.hid h2
          by_cases hk0 : 0 < k
          · have hp : k - 1 < T.length := by omega
            have p0 := (ox_at hR hp).1
            obtain ⟨pv, hpv⟩ : ∃ z, Hid (T[k - 1].f = z) := ⟨_, Lib.hid rfl⟩
            rw [hpv.out] at p0
            have HP : Hid (oxK T k = if fr ≤ pv then 9 else 0) := Lib.hid (by
              rw [hK.out, h1, h2, if_neg (by simp), getD_at hp, hpv.out]
              by_cases e : fr ≤ pv
              · rw [if_pos ⟨hk0, e⟩, if_pos e]
              · rw [if_neg (fun h => e h.2), if_neg e])
            obtain ⟨q, hq⟩ : ∃ q : Nat, Hid (k = q + 1) := ⟨k - 1, Lib.hid (by omega)⟩
            have hkq : k - 1 = q := by have := hq.out; omega
            rw [hkq] at p0
            have hw : IntKind.i64.wrap ((k : Int) - 1) = (q : Int) := by rw [IntWalk.i64_in _ (by omega)]; have := hq.out; omega
            have hw2 : (k : Int) - 1 = (q : Int) := by have := hq.out; omega
            have g1 : decide (0 < k) = true := by simpa using hk0
            have g1' : decide ((0 : Int) < (k : Int)) = true := by simpa using hk0
            have q0 : ¬ (q : Int) < 0 := by omega
            have qn : (q : Int) < (n : Int) := by have := hq.out; omega
            clear hR hkq h1 h2 hpv hK hk0 hp
            by_cases e : fr ≤ pv
            · have g2 : decide (fr ≤ pv) = true := by simpa using e
              have hr : Hid (E = 9) := Lib.hid (by have h9 : oxK T k = 9 := by rw [HP.out, if_pos e]
                                                   rw [hstop.out (by rw [h9]; decide), h9])
              clear HP hstop hnext e
              go_wp2_with (go_at_call 9; first | ((with_reducible refine (bW_r _ _ _ _ _ H1).mono ?_); rintro e w' ⟨rfl, rfl⟩) | ((with_reducible refine (bW_r _ _ _ _ _ H2).mono ?_); rintro e w' ⟨rfl, rfl⟩))
              go_big_quiet (fail)
              go_wp2
              go_ret
              exact ⟨ret_int hr.out.symm, (by (repeat (first | (with_reducible refine Below.drew ?_) | (with_reducible refine below_drewN ?_ _) | (with_reducible refine Below.alloc ?_ (by first | omega | (simp; done) | (simp; omega) | (simp at *; omega)) _) | (with_reducible refine Below.setCell ?_ (by first | omega | (simp; done) | (simp; omega) | (simp at *; omega)) _) | (with_reducible exact Below.refl _ _) | (with_reducible assumption) | (with_reducible refine Below.trans ?_ (Below.mono (by assumption) (by first | omega | (simp; done) | (simp; omega) | (simp at *; omega)))))))⟩
            · have g2 : decide (fr ≤ pv) = false := by simpa using e
              have hx : Hid (∀ j, j < k + 1 → oxK T j = 0) := Lib.hid (hnext.out (by rw [HP.out, if_neg e]))
              clear HP hstop hnext e
              go_wp2_with (go_at_call 9; first | ((with_reducible refine (bW_r _ _ _ _ _ H1).mono ?_); rintro e w' ⟨rfl, rfl⟩) | ((with_reducible refine (bW_r _ _ _ _ _ H2).mono ?_); rintro e w' ⟨rfl, rfl⟩))
              go_big_quiet (fail)
              go_wp2
              go_roundw
              case rel => exact ⟨k + 1, by omega, by go_num, hx, Lib.hid (hP.out.below (by (repeat (first | (with_reducible refine Below.drew ?_) | (with_reducible refine below_drewN ?_ _) | (with_reducible refine Below.alloc ?_ (by first | omega | (simp; done) | (simp; omega) | (simp at *; omega)) _) | (with_reducible refine Below.setCell ?_ (by first | omega | (simp; done) | (simp; omega) | (simp at *; omega)) _) | (with_reducible exact Below.refl _ _) | (with_reducible assumption) | (with_reducible refine Below.trans ?_ (Below.mono (by assumption) (by first | omega | (simp; done) | (simp; omega) | (simp at *; omega)))))))), (by (repeat (first | (with_reducible refine Below.drew ?_) | (with_reducible refine below_drewN ?_ _) | (with_reducible refine Below.alloc ?_ (by first | omega | (simp; done) | (simp; omega) | (simp at *; omega)) _) | (with_reducible refine Below.setCell ?_ (by first | omega | (simp; done) | (simp; omega) | (simp at *; omega)) _) | (with_reducible exact Below.refl _ _) | (with_reducible assumption) | (with_reducible refine Below.trans ?_ (Below.mono (by assumption) (by first | omega | (simp; done) | (simp; omega) | (simp at *; omega)))))))⟩
              case measure => simp [intOf]; omega
          · have g1 : decide (0 < k) = false := by simpa using hk0
            have g1' : decide ((0 : Int) < (k : Int)) = false := by simpa using hk0
            have hx : Hid (∀ j, j < k + 1 → oxK T j = 0) := Lib.hid (hnext.out (by rw [hK.out, h1, h2, if_neg (by simp), if_neg (fun h => hk0 h.1)]))
            clear hR h1 h2 hK hk0 hstop hnext
            go_wp2_with (go_at_call 9; first | ((with_reducible refine (bW_r _ _ _ _ _ H1).mono ?_); rintro e w' ⟨rfl, rfl⟩) | ((with_reducible refine (bW_r _ _ _ _ _ H2).mono ?_); rintro e w' ⟨rfl, rfl⟩))
            go_big_quiet (fail)
            go_wp2
            go_roundw
            case rel => exact ⟨k + 1, by omega, by go_num, hx, Lib.hid (hP.out.below (by (repeat (first | (with_reducible refine Below.drew ?_) | (with_reducible refine below_drewN ?_ _) | (with_reducible refine Below.alloc ?_ (by first | omega | (simp; done) | (simp; omega) | (simp at *; omega)) _) | (with_reducible refine Below.setCell ?_ (by first | omega | (simp; done) | (simp; omega) | (simp at *; omega)) _) | (with_reducible exact Below.refl _ _) | (with_reducible assumption) | (with_reducible refine Below.trans ?_ (Below.mono (by assumption) (by first | omega | (simp; done) | (simp; omega) | (simp at *; omega)))))))), (by (repeat (first | (with_reducible refine Below.drew ?_) | (with_reducible refine below_drewN ?_ _) | (with_reducible refine Below.alloc ?_ (by first | omega | (simp; done) | (simp; omega) | (simp at *; omega)) _) | (with_reducible refine Below.setCell ?_ (by first | omega | (simp; done) | (simp; omega) | (simp at *; omega)) _) | (with_reducible exact Below.refl _ _) | (with_reducible assumption) | (with_reducible refine Below.trans ?_ (Below.mono (by assumption) (by first | omega | (simp; done) | (simp; omega) | (simp at *; omega)))))))⟩
            case measure => simp [intOf]; omega
        · have h2' : inB rt 0 100000 = false := by simpa using h2
          have H2 := Lib.hid h2'
          have hr : Hid (E = 2) := Lib.hid (by have h9 : oxK T k = 2 := by rw [hK.out, h1, h2', if_pos (by simp)]
                                               rw [hstop.out (by rw [h9]; decide), h9])
          clear hR h1 h2 h2' hK hstop hnext
          go_wp2_with (go_at_call 9; first | ((with_reducible refine (bW_r _ _ _ _ _ H1).mono ?_); rintro e w' ⟨rfl, rfl⟩) | ((with_reducible refine (bW_r _ _ _ _ _ H2).mono ?_); rintro e w' ⟨rfl, rfl⟩))
          go_ret
          exact ⟨ret_int hr.out.symm, (by (repeat (first | (with_reducible refine Below.drew ?_) | (with_reducible refine below_drewN ?_ _) | (with_reducible refine Below.alloc ?_ (by first | omega | (simp; done) | (simp; omega) | (simp at *; omega)) _) | (with_reducible refine Below.setCell ?_ (by first | omega | (simp; done) | (simp; omega) | (simp at *; omega)) _) | (with_reducible exact Below.refl _ _) | (with_reducible assumption) | (with_reducible refine Below.trans ?_ (Below.mono (by assumption) (by first | omega | (simp; done) | (simp; omega) | (simp at *; omega)))))))⟩
      · have h1' : inB fr 0 4000 = false := by simpa using h1
        have H1 := Lib.hid h1'
        have hr : Hid (E = 2) := Lib.hid (by have h9 : oxK T k = 2 := by rw [hK.out, h1', if_pos (by simp)]
                                             rw [hstop.out (by rw [h9]; decide), h9])
        clear hR h1 h1' hK hstop hnext
        go_wp2_with ((go_at_call 9; ((with_reducible refine (bW_r _ _ _ _ _ H1).mono ?_)); rintro e w' ⟨rfl, rfl⟩))
        go_ret
        exact ⟨ret_int hr.out.symm, (by (repeat (first | (with_reducible refine Below.drew ?_) | (with_reducible refine below_drewN ?_ _) | (with_reducible refine Below.alloc ?_ (by first | omega | (simp; done) | (simp; omega) | (simp at *; omega)) _) | (with_reducible refine Below.setCell ?_ (by first | omega | (simp; done) | (simp; omega) | (simp at *; omega)) _) | (with_reducible exact Below.refl _ _) | (with_reducible assumption) | (with_reducible refine Below.trans ?_ (Below.mono (by assumption) (by first | omega | (simp; done) | (simp; omega) | (simp at *; omega)))))))⟩
    · have kn : ¬ (k : Int) < (n : Int) := by omega
      have hox : Hid (oxE T = 0) := Lib.hid (by rw [HX.out]; exact fstI_all fun j hj => by simpa using hz.out j (by have : j < T.length := by simpa using hj
                                                                                                                    have := hn.out; omega))
      clear hz
      go_wp2_with fail
      refine (refCheckLimits_any r.a r.b _).mono ?_
      rintro e w4 ⟨rfl, hw4⟩
      have hb4 : Below wr.heap.size wr w4 := by rw [← hw4]; exact (Below.refl _ _).alloc (Nat.le_refl _) _
      have Y4 := Lib.hid (hP.out.below hb4)
      have hB4 := Lib.hid (hB.trans (hb4.mono hB.size))
      clear hw4 c0 c1 c2 c3 c4 c5 c6 c7 c8
      obtain ⟨c0, c1, c2, c3, c4, c5, c6, c7, c8⟩ := b9 Y4.out
      by_cases hlm : limE r.a r.b = 0
      · have hlz : (limE r.a r.b != 0) = false := by simp [hlm]
        have HV : Hid (E = if inB r.nc 0 30000 = true ∧ inB r.dn 1 100000 = true ∧ inB r.br 1 100000 = true ∧ inB r.em 1 100000 = true ∧ inB r.pa 0 3600 = true ∧ inB r.sc 1 3000 = true then 0 else 2) := Lib.hid (by rw [← HE.out, ruE_val, if_neg (by rw [hox.out]; simp), if_neg (by rw [hlm]; simp)])
        rcases inB_cases r.nc 0 30000 with q0 | q0
        · skip
          rcases inB_cases r.dn 1 100000 with q1 | q1
          · skip
            rcases inB_cases r.br 1 100000 with q2 | q2
            · skip
              rcases inB_cases r.em 1 100000 with q3 | q3
              · skip
                rcases inB_cases r.pa 0 3600 with q4 | q4
                · skip
                  rcases inB_cases r.sc 1 3000 with q5 | q5
                  · skip
                    have hr : Hid (E = 0) := Lib.hid (by rw [HV.out, if_pos ⟨q0, q1, q2, q3, q4, q5⟩])
                    go_wp2_with (first | (go_at_call 9; ((with_reducible refine (baseWithin_any _ _ _ _).mono ?_)); rintro e w' ⟨rfl, rfl⟩) | (go_at_call 49; ((with_reducible refine (isBreath_any _ _).mono ?_)); rintro e w' ⟨rfl, rfl⟩))
                    go_ret
                    exact ⟨ret_int hr.out.symm, hB4.out⟩
                  · have hr : Hid (E = 2) := Lib.hid (by rw [HV.out, if_neg (fun h => by have := h.2.2.2.2.2; rw [q5] at this; cases this)])
                    go_wp2_with (first | (go_at_call 9; ((with_reducible refine (baseWithin_any _ _ _ _).mono ?_)); rintro e w' ⟨rfl, rfl⟩) | (go_at_call 49; ((with_reducible refine (isBreath_any _ _).mono ?_)); rintro e w' ⟨rfl, rfl⟩))
                    go_ret
                    exact ⟨ret_int hr.out.symm, hB4.out⟩
                · have hr : Hid (E = 2) := Lib.hid (by rw [HV.out, if_neg (fun h => by have := h.2.2.2.2.1; rw [q4] at this; cases this)])
                  go_wp2_with (first | (go_at_call 9; ((with_reducible refine (baseWithin_any _ _ _ _).mono ?_)); rintro e w' ⟨rfl, rfl⟩) | (go_at_call 49; ((with_reducible refine (isBreath_any _ _).mono ?_)); rintro e w' ⟨rfl, rfl⟩))
                  go_ret
                  exact ⟨ret_int hr.out.symm, hB4.out⟩
              · have hr : Hid (E = 2) := Lib.hid (by rw [HV.out, if_neg (fun h => by have := h.2.2.2.1; rw [q3] at this; cases this)])
                go_wp2_with (first | (go_at_call 9; ((with_reducible refine (baseWithin_any _ _ _ _).mono ?_)); rintro e w' ⟨rfl, rfl⟩) | (go_at_call 49; ((with_reducible refine (isBreath_any _ _).mono ?_)); rintro e w' ⟨rfl, rfl⟩))
                go_ret
                exact ⟨ret_int hr.out.symm, hB4.out⟩
            · have hr : Hid (E = 2) := Lib.hid (by rw [HV.out, if_neg (fun h => by have := h.2.2.1; rw [q2] at this; cases this)])
              go_wp2_with (first | (go_at_call 9; ((with_reducible refine (baseWithin_any _ _ _ _).mono ?_)); rintro e w' ⟨rfl, rfl⟩) | (go_at_call 49; ((with_reducible refine (isBreath_any _ _).mono ?_)); rintro e w' ⟨rfl, rfl⟩))
              go_ret
              exact ⟨ret_int hr.out.symm, hB4.out⟩
          · have hr : Hid (E = 2) := Lib.hid (by rw [HV.out, if_neg (fun h => by have := h.2.1; rw [q1] at this; cases this)])
            go_wp2_with (first | (go_at_call 9; ((with_reducible refine (baseWithin_any _ _ _ _).mono ?_)); rintro e w' ⟨rfl, rfl⟩) | (go_at_call 49; ((with_reducible refine (isBreath_any _ _).mono ?_)); rintro e w' ⟨rfl, rfl⟩))
            go_ret
            exact ⟨ret_int hr.out.symm, hB4.out⟩
        · have hr : Hid (E = 2) := Lib.hid (by rw [HV.out, if_neg (fun h => by have := h.1; rw [q0] at this; cases this)])
          go_wp2_with (first | (go_at_call 9; ((with_reducible refine (baseWithin_any _ _ _ _).mono ?_)); rintro e w' ⟨rfl, rfl⟩) | (go_at_call 49; ((with_reducible refine (isBreath_any _ _).mono ?_)); rintro e w' ⟨rfl, rfl⟩))
          go_ret
          exact ⟨ret_int hr.out.symm, hB4.out⟩
      · have hlz : (limE r.a r.b != 0) = true := by simpa using hlm
        have hr : Hid (E = limE r.a r.b) := Lib.hid (by rw [← HE.out, ruE_val, if_neg (by rw [hox.out]; simp), if_pos hlm])
        go_wp2
        go_ret
        exact ⟨ret_int hr.out.symm, hB4.out⟩
end Go.Proofs.Ytgidmmmdpmophaa
