import Derived.Test.YtijdphlejokijaaED9EBrk
import Derived.Test.YtijdphlejokijaaED9ERfC
import Derived.Test.YtijdphlejokijaaED9EDpts
import Derived.Outline
namespace Go.Proofs.Ytijdphlejokijaa
open Go.ChangeShapes Go.WideShapes Go.ChangeAt Go.RowKit
set_option linter.unusedVariables false
set_option linter.unusedSimpArgs false
attribute [local go_sem ↓] Go.wp_at_zero Go.wp_at_succ

theorem refGasD (o h E : Int) (w : World) (hE : Hid (gasE o h = E)) : Calls Try.prog 92 #[.agg #[.int .i64 o, .int .i64 h]] w fun e w' => e = .returned (.int .i64 E) ∧ Below w.heap.size w w' := (refCheckGas_any o h w).mono fun e w' h => ⟨by rw [h.1, hE.out], by rw [← h.2]; exact (Below.refl _ _).alloc (Nat.le_refl _) _⟩
theorem isSurf_d (n : Int) (r : Bool) (w : World) (h : Hid (inB n 400 1100 = r)) : Calls Try.prog 52 #[.int .i64 n] w fun e w' => e = .returned (.bool r) ∧ w = w' := by rw [← h.out]; exact IsSurface_any n w
set_option maxHeartbeats 1000000 in
theorem gasErr_is (o h s : Int) (T : List Ox) (r : Ru) (AT : Option Addr) (tn tc : Nat) (E1 E2 E3 E : Int) (w : World) (htn : Hid (tn = T.length)) (htl : tn ≤ 9223372036854775807) (hT : Hid (SlRows oxV 2 w AT T)) (hE1 : Hid (gasE o h = E1)) (hE2 : Hid (rngE s 400 1100 = E2)) (hE3 : Hid (ruE T r = E3)) (hE : Hid (firE [E1, E2, E3] = E)) :
    Calls Try.prog 38 #[.agg #[.int .i64 o, .int .i64 h], .int .i64 s, .agg #[.slice AT tn tc, .int .i64 r.a, .int .i64 r.b, .int .i64 r.nc, .int .i64 r.dn, .int .i64 r.br, .int .i64 r.em, .int .i64 r.pa, .int .i64 r.sc]] w fun e w' => e = .returned (.int .i64 E) ∧ Below w.heap.size w w' := by
  go_enter Try.func38, Try.ntmps38
  go_wp2_with fail
  refine (refGasD o h E1 _ hE1).mono ?_
  rintro e x1 ⟨rfl, hb1⟩
  have hc1 : Below w.heap.size w x1 := (((Below.refl _ _).alloc (by first | exact Nat.le_refl _ | (simp; done) | (simp; omega)) _).alloc (by first | exact Nat.le_refl _ | (simp; done) | (simp; omega)) _).trans (hb1.mono (by first | exact Nat.le_refl _ | (simp; done) | (simp; omega)))
  have hB1 : Below w.heap.size w x1 := hc1
  have zu1 := hB1.size
  have GB : Hid (BlkF x1 w.heap.size (w.heap.size) [.int .i64 o, .int .i64 h]) := Lib.hid (((BlkF.made (B := w.heap.size) w [.int .i64 o, .int .i64 h] 72 (by first | exact Nat.le_refl _ | (simp; done) | (simp; omega))).below ((Below.refl _ _).alloc (Nat.le_refl _) _)).below hb1)
  have zGB1 := GB.out.lt
  have RB : Hid (BlkF x1 w.heap.size (w.heap.size + 1) [.slice AT tn tc, .int .i64 r.a, .int .i64 r.b, .int .i64 r.nc, .int .i64 r.dn, .int .i64 r.br, .int .i64 r.em, .int .i64 r.pa, .int .i64 r.sc]) := Lib.hid (by have := (BlkF.made (B := w.heap.size) (w.alloc (.cells #[.int .i64 o, .int .i64 h] 72)) [.slice AT tn tc, .int .i64 r.a, .int .i64 r.b, .int .i64 r.nc, .int .i64 r.dn, .int .i64 r.br, .int .i64 r.em, .int .i64 r.pa, .int .i64 r.sc] 26 (by first | exact Nat.le_refl _ | (simp; done) | (simp; omega))).below hb1; simpa using this)
  have zRB1 := RB.out.lt
  clear hb1
  obtain ⟨GB_1_0, GB_1_1⟩ := b2 GB.out
  have lGB_1 := GB.out.lt
  have nGB_1 : x1.heap.size ≠ w.heap.size := by omega
  have mGB_1 : w.heap.size ≠ x1.heap.size := by omega
  obtain ⟨RB_1_0, RB_1_1, RB_1_2, RB_1_3, RB_1_4, RB_1_5, RB_1_6, RB_1_7, RB_1_8⟩ := b9 RB.out
  have lRB_1 := RB.out.lt
  have nRB_1 : x1.heap.size ≠ w.heap.size + 1 := by omega
  have mRB_1 : w.heap.size + 1 ≠ x1.heap.size := by omega
  by_cases h0 : E1 = 0
  · subst h0
    cases hb : inB s 400 1100 with
    | false =>
      have HB := Lib.hid hb
      have hr : Hid (E = 2) := Lib.hid (by rw [← hE.out, hE2.out.symm, rngE_f hb]; rfl)
      go_wp2_with ((go_at_call 52; ((with_reducible refine (isSurf_d _ _ _ HB).mono ?_)); rintro e w' ⟨rfl, rfl⟩))
      go_ret
      exact ⟨ret_int hr.out.symm, hB1⟩
    | true =>
      have HB := Lib.hid hb
      have hr : Hid (E = E3) := Lib.hid (by rw [← hE.out, hE2.out.symm, rngE_t hb]; by_cases e : E3 = 0 <;> simp [firE, e])
      go_wp2_with ((go_at_call 52; ((with_reducible refine (isSurf_d _ _ _ HB).mono ?_)); rintro e w' ⟨rfl, rfl⟩))
      refine (refCheckRules_any T r AT tn tc E3 _ htn htl (Lib.hid (hT.out.below hB1)) hE3).mono ?_
      rintro e x2 ⟨rfl, hb2⟩
      have hc2 : Below x1.heap.size x1 x2 := hb2
      have hB2 : Below w.heap.size w x2 := hB1.trans (hc2.mono hB1.size)
      have zu2 := hB2.size
      replace GB := Lib.hid (GB.out.below hc2)
      replace RB := Lib.hid (RB.out.below hc2)
      clear GB_1_0 GB_1_1 lGB_1 nGB_1 mGB_1 RB_1_0 RB_1_1 RB_1_2 RB_1_3 RB_1_4 RB_1_5 RB_1_6 RB_1_7 RB_1_8 lRB_1 nRB_1 mRB_1
      clear hb2 hB1 zu1 hc1
      obtain ⟨GB_2_0, GB_2_1⟩ := b2 GB.out
      have lGB_2 := GB.out.lt
      have nGB_2 : x2.heap.size ≠ w.heap.size := by omega
      have mGB_2 : w.heap.size ≠ x2.heap.size := by omega
      obtain ⟨RB_2_0, RB_2_1, RB_2_2, RB_2_3, RB_2_4, RB_2_5, RB_2_6, RB_2_7, RB_2_8⟩ := b9 RB.out
      have lRB_2 := RB.out.lt
      have nRB_2 : x2.heap.size ≠ w.heap.size + 1 := by omega
      have mRB_2 : w.heap.size + 1 ≠ x2.heap.size := by omega
      go_wp2
      go_ret
      exact ⟨ret_int hr.out.symm, hB2⟩
  · have h1 : (E1 != 0) = true := by simpa using h0
    have hr : Hid (E = E1) := Lib.hid (by rw [← hE.out, firE, if_neg h0])
    go_wp2
    go_ret
    exact ⟨ret_int hr.out.symm, hB1⟩
theorem BlkF.putD {u : World} {B b : Nat} {vs : List Value} (h : BlkF u B b vs) {i : Nat} (v : Value) (hi : i < vs.length) : BlkF (u.setCell ⟨b, i, none⟩ v) B b (vs.set i v) := by
  refine ⟨h.ge, by simpa using h.lt, fun j x hx => ?_, fun j => by rw [World.frozen?_setCell]; exact h.fz j⟩
  by_cases e : i = j
  · subst e
    rw [List.getElem?_set_self hi] at hx
    injection hx with hx
    subst hx
    exact cell_sameB (h.at' i _ (List.getElem?_eq_getElem hi))
  · rw [List.getElem?_set_ne e] at hx
    rw [cell_offB e]
    exact h.at' j x hx
/-- What is found below a depth. -/
def stD (P Q k : Nat) : Int × Int := if P < min k Q then ((P : Int), ((min k Q : Nat) : Int) - 1) else (-1, 0)
theorem stD_in {P Q k : Nat} (h1 : P ≤ k) (h2 : k < Q) : stD P Q (k + 1) = ((P : Int), (k : Int)) := by
  unfold stD
  rw [if_pos (by omega), show min (k + 1) Q = k + 1 by omega]
  have : ((k + 1 : Nat) : Int) - 1 = k := by omega
  rw [this]
theorem stD_out {P Q k : Nat} (h : ¬ (P ≤ k ∧ k < Q)) : stD P Q (k + 1) = stD P Q k := by
  unfold stD
  by_cases hq : k < Q
  · rw [if_neg (by omega), if_neg (by omega)]
  · rw [show min (k + 1) Q = Q by omega, show min k Q = Q by omega]
theorem stD_at {P Q k : Nat} (h1 : P ≤ k) (h2 : k < Q) : stD P Q k = if k = P then (-1, 0) else ((P : Int), (k : Int) - 1) := by
  unfold stD
  by_cases e : k = P
  · rw [if_neg (by omega), if_pos e]
  · rw [if_pos (by omega), if_neg e, show min k Q = k by omega]
theorem limE_bd {a b : Int} (h : limE a b = 0) : (1 ≤ a ∧ a ≤ 4000) ∧ 1 ≤ b ∧ b ≤ 4000 := by
  rw [limE_val] at h
  by_cases e : inB a 1 4000 = true ∧ inB b 1 4000 = true
  · exact ⟨inB_iff.1 e.1, inB_iff.1 e.2⟩
  · rw [if_neg e] at h; exact absurd h (by decide)
theorem brkL_none {r : Ru} {o h s : Int} {k : Nat} : (0 < (brkL r o h s (s + k) (s + k)).length) ↔ ¬ (poorP r o s k = true ∧ deepP r o h s k = false) := by
  unfold brkL poorP deepP
  rw [show s + (k : Int) - s = k by omega]
  by_cases h1 : o * (s + k) < 1000 * r.a
  · simp [h1]
  · by_cases h2 : 0 < (kndL r o h s k).length
    · simp [h1, h2]
    · simp [h1, h2]
set_option maxRecDepth 100000 in
set_option maxHeartbeats 4000000 in
theorem refDepthsOf_is (o h s : Int) (T : List Ox) (r : Ru) (AT : Option Addr) (tn tc : Nat) (x y : Int) (ok : Bool) (w : World) (hg : Hid (gasE o h = 0)) (s0 : 400 ≤ s) (s1 : s ≤ 1100) (hru : Hid (RuOk T r)) (hP : Hid ((dptP r o h s).1 = x ∧ (dptP r o h s).2.1 = y ∧ decide ((dptP r o h s).2.2 = 0) = ok)) :
    Calls Try.prog 39 #[.agg #[.int .i64 o, .int .i64 h], .int .i64 s, .agg #[.slice AT tn tc, .int .i64 r.a, .int .i64 r.b, .int .i64 r.nc, .int .i64 r.dn, .int .i64 r.br, .int .i64 r.em, .int .i64 r.pa, .int .i64 r.sc]] w fun e w' => e = .returned (.tuple #[.agg #[.int .i64 x, .int .i64 y], .bool ok]) ∧ Below w.heap.size w w' := by
  have hgo := gasE_o hg.out
  have hlm := limE_bd hru.out.lm
  obtain ⟨P, hPP⟩ : ∃ z, Hid (dpt (poorP r o s) 30001 = z) := ⟨_, Lib.hid rfl⟩
  obtain ⟨Q, hQQ⟩ : ∃ z, Hid (dpt (deepP r o h s) 30001 = z) := ⟨_, Lib.hid rfl⟩
  have dp := dpt_is (poorP_mono r (s := s) hgo.1) 30001
  have dq := dpt_is (deepP_mono r (s := s) hgo.1 hgo.2.1 hgo.2.2.1 hgo.2.2.2.1 hgo.2.2.2.2) 30001
  rw [hPP.out] at dp
  rw [hQQ.out] at dq
  have DP := Lib.hid dp
  have DQ := Lib.hid dq
  have hP30 := dp.1
  have hQ30 := dq.1
  clear dp dq
  go_enter Try.func39, Try.ntmps39
  go_wp2_with fail
  refine wp_worldE (fun u => Below w.heap.size w u ∧ BlkF u w.heap.size (w.heap.size) [.int .i64 o, .int .i64 h] ∧ BlkF u w.heap.size (w.heap.size + 1) [.slice AT tn tc, .int .i64 r.a, .int .i64 r.b, .int .i64 r.nc, .int .i64 r.dn, .int .i64 r.br, .int .i64 r.em, .int .i64 r.pa, .int .i64 r.sc] ∧ BlkF u w.heap.size (w.heap.size + 1 + 1) [.int .i64 0, .int .i64 0] ∧ BlkF u w.heap.size (w.heap.size + 1 + 1 + 1) [.int .i64 (-1), .int .i64 0]) ⟨((((Below.refl _ _).alloc (by first | exact Nat.le_refl _ | (simp; done) | (simp; omega)) _).alloc (by first | exact Nat.le_refl _ | (simp; done) | (simp; omega)) _).alloc (by first | exact Nat.le_refl _ | (simp; done) | (simp; omega)) _).alloc (by first | exact Nat.le_refl _ | (simp; done) | (simp; omega)) _, (((BlkF.made (B := w.heap.size) w [.int .i64 o, .int .i64 h] 72 (by first | exact Nat.le_refl _ | (simp; done) | (simp; omega))).below (Below.alloc (Below.refl _ (w.alloc (.cells #[.int .i64 o, .int .i64 h] 72))) (Nat.le_refl _) (.cells #[.slice AT tn tc, .int .i64 r.a, .int .i64 r.b, .int .i64 r.nc, .int .i64 r.dn, .int .i64 r.br, .int .i64 r.em, .int .i64 r.pa, .int .i64 r.sc] 26))).below (Below.alloc (Below.refl _ ((w.alloc (.cells #[.int .i64 o, .int .i64 h] 72)).alloc (.cells #[.slice AT tn tc, .int .i64 r.a, .int .i64 r.b, .int .i64 r.nc, .int .i64 r.dn, .int .i64 r.br, .int .i64 r.em, .int .i64 r.pa, .int .i64 r.sc] 26))) (Nat.le_refl _) (.cells #[.int .i64 0, .int .i64 0] 47))).below (Below.alloc (Below.refl _ (((w.alloc (.cells #[.int .i64 o, .int .i64 h] 72)).alloc (.cells #[.slice AT tn tc, .int .i64 r.a, .int .i64 r.b, .int .i64 r.nc, .int .i64 r.dn, .int .i64 r.br, .int .i64 r.em, .int .i64 r.pa, .int .i64 r.sc] 26)).alloc (.cells #[.int .i64 0, .int .i64 0] 47))) (Nat.le_refl _) (.cells #[.int .i64 (-1), .int .i64 0] 47)), by have := ((BlkF.made (B := w.heap.size) (w.alloc (.cells #[.int .i64 o, .int .i64 h] 72)) [.slice AT tn tc, .int .i64 r.a, .int .i64 r.b, .int .i64 r.nc, .int .i64 r.dn, .int .i64 r.br, .int .i64 r.em, .int .i64 r.pa, .int .i64 r.sc] 26 (by first | exact Nat.le_refl _ | (simp; done) | (simp; omega))).below (Below.alloc (Below.refl _ ((w.alloc (.cells #[.int .i64 o, .int .i64 h] 72)).alloc (.cells #[.slice AT tn tc, .int .i64 r.a, .int .i64 r.b, .int .i64 r.nc, .int .i64 r.dn, .int .i64 r.br, .int .i64 r.em, .int .i64 r.pa, .int .i64 r.sc] 26))) (Nat.le_refl _) (.cells #[.int .i64 0, .int .i64 0] 47))).below (Below.alloc (Below.refl _ (((w.alloc (.cells #[.int .i64 o, .int .i64 h] 72)).alloc (.cells #[.slice AT tn tc, .int .i64 r.a, .int .i64 r.b, .int .i64 r.nc, .int .i64 r.dn, .int .i64 r.br, .int .i64 r.em, .int .i64 r.pa, .int .i64 r.sc] 26)).alloc (.cells #[.int .i64 0, .int .i64 0] 47))) (Nat.le_refl _) (.cells #[.int .i64 (-1), .int .i64 0] 47)); simpa using this, by have := (BlkF.made (B := w.heap.size) ((w.alloc (.cells #[.int .i64 o, .int .i64 h] 72)).alloc (.cells #[.slice AT tn tc, .int .i64 r.a, .int .i64 r.b, .int .i64 r.nc, .int .i64 r.dn, .int .i64 r.br, .int .i64 r.em, .int .i64 r.pa, .int .i64 r.sc] 26)) [.int .i64 0, .int .i64 0] 47 (by first | exact Nat.le_refl _ | (simp; done) | (simp; omega))).below (Below.alloc (Below.refl _ (((w.alloc (.cells #[.int .i64 o, .int .i64 h] 72)).alloc (.cells #[.slice AT tn tc, .int .i64 r.a, .int .i64 r.b, .int .i64 r.nc, .int .i64 r.dn, .int .i64 r.br, .int .i64 r.em, .int .i64 r.pa, .int .i64 r.sc] 26)).alloc (.cells #[.int .i64 0, .int .i64 0] 47))) (Nat.le_refl _) (.cells #[.int .i64 (-1), .int .i64 0] 47)); simpa using this, by have := BlkF.made (B := w.heap.size) (((w.alloc (.cells #[.int .i64 o, .int .i64 h] 72)).alloc (.cells #[.slice AT tn tc, .int .i64 r.a, .int .i64 r.b, .int .i64 r.nc, .int .i64 r.dn, .int .i64 r.br, .int .i64 r.em, .int .i64 r.pa, .int .i64 r.sc] 26)).alloc (.cells #[.int .i64 0, .int .i64 0] 47)) [.int .i64 (-1), .int .i64 0] 47 (by first | exact Nat.le_refl _ | (simp; done) | (simp; omega)); simpa using this⟩ (fun x1 hu1 => ?_)
  obtain ⟨hc1, qGB, qRB, qZB, qOB⟩ := hu1
  have GB := Lib.hid qGB
  clear qGB
  have RB := Lib.hid qRB
  clear qRB
  have ZB := Lib.hid qZB
  clear qZB
  have OB := Lib.hid qOB
  clear qOB
  have hB1 : Below w.heap.size w x1 := hc1
  have zu1 := hB1.size
  obtain ⟨GB_1_0, GB_1_1⟩ := b2 GB.out
  have lGB_1 := GB.out.lt
  have nGB_1 : x1.heap.size ≠ w.heap.size := by omega
  have mGB_1 : w.heap.size ≠ x1.heap.size := by omega
  obtain ⟨RB_1_0, RB_1_1, RB_1_2, RB_1_3, RB_1_4, RB_1_5, RB_1_6, RB_1_7, RB_1_8⟩ := b9 RB.out
  have lRB_1 := RB.out.lt
  have nRB_1 : x1.heap.size ≠ w.heap.size + 1 := by omega
  have mRB_1 : w.heap.size + 1 ≠ x1.heap.size := by omega
  obtain ⟨ZB_1_0, ZB_1_1⟩ := b2 ZB.out
  have lZB_1 := ZB.out.lt
  have nZB_1 : x1.heap.size ≠ w.heap.size + 1 + 1 := by omega
  have mZB_1 : w.heap.size + 1 + 1 ≠ x1.heap.size := by omega
  obtain ⟨OB_1_0, OB_1_1⟩ := b2 OB.out
  have lOB_1 := OB.out.lt
  have nOB_1 : x1.heap.size ≠ w.heap.size + 1 + 1 + 1 := by omega
  have mOB_1 : w.heap.size + 1 + 1 + 1 ≠ x1.heap.size := by omega
  have G0 := GB
  have R0 := RB
  have Z0 := ZB
  have O0 : Hid (BlkF x1 w.heap.size (w.heap.size + 1 + 1 + 1) [.int .i64 (stD P Q 0).1, .int .i64 (stD P Q 0).2]) := Lib.hid (by
    have e : stD P Q 0 = (-1, 0) := by unfold stD; rw [if_neg (by omega)]
    rw [e]; exact OB.out)
  have B0 := Lib.hid hB1
  clear GB_1_0 GB_1_1 lGB_1 nGB_1 mGB_1 RB_1_0 RB_1_1 RB_1_2 RB_1_3 RB_1_4 RB_1_5 RB_1_6 RB_1_7 RB_1_8 lRB_1 nRB_1 mRB_1 ZB_1_0 ZB_1_1 lZB_1 nZB_1 mZB_1 OB_1_0 OB_1_1 lOB_1 nOB_1 mOB_1 hB1 zu1 hc1
  go_loopw [9] (fun i wr => ∃ k : Nat, k ≤ 30001 ∧ i = .int .i64 k ∧ Hid (BlkF wr w.heap.size w.heap.size [.int .i64 o, .int .i64 h]) ∧ Hid (BlkF wr w.heap.size (w.heap.size + 1) [.slice AT tn tc, .int .i64 r.a, .int .i64 r.b, .int .i64 r.nc, .int .i64 r.dn, .int .i64 r.br, .int .i64 r.em, .int .i64 r.pa, .int .i64 r.sc]) ∧ Hid (BlkF wr w.heap.size (w.heap.size + 1 + 1) [.int .i64 0, .int .i64 0]) ∧ Hid (BlkF wr w.heap.size (w.heap.size + 1 + 1 + 1) [.int .i64 (stD P Q k).1, .int .i64 (stD P Q k).2]) ∧ Hid (Below w.heap.size w wr)) (fun i _ => 30001 - (intOf i).toNat)
  case atStart => exact ⟨0, by omega, rfl, G0, R0, Z0, O0, B0⟩
  case round =>
    clear G0 R0 Z0 O0 B0 GB RB ZB OB
    obtain ⟨k, hk, rfl, GB, RB, ZB, OB, HBw⟩ := hrel
    obtain ⟨ob, hob⟩ : ∃ z, Hid (w.heap.size + 1 + 1 + 1 = z) := ⟨_, Lib.hid rfl⟩
    obtain ⟨lo9, hlo9⟩ : ∃ z, Hid ((stD P Q k).1 = z) := ⟨_, Lib.hid rfl⟩
    obtain ⟨hi9, hhi9⟩ : ∃ z, Hid ((stD P Q k).2 = z) := ⟨_, Lib.hid rfl⟩
    rw [hlo9.out, hhi9.out] at OB
    have hB := HBw.out
    have zb := hB.size
    obtain ⟨g0, g1⟩ := b2 GB.out
    obtain ⟨r0, r1, r2, r3, r4, r5, r6, r7, r8⟩ := b9 RB.out
    obtain ⟨z0, z1⟩ := b2 ZB.out
    obtain ⟨o0, o1⟩ := b2 OB.out
    have lo := OB.out.lt
    have fo := OB.out.fz
    have fz := ZB.out.fz
    by_cases hkn : k < 30001
    · have kn : (k : Int) ≤ 30000 := by omega
      have ws : IntKind.i64.wrap (s + (k : Int)) = s + k := IntWalk.i64_in _ (by omega)
      obtain ⟨L, hL⟩ : ∃ z, Hid (brkL r o h s (s + k) (s + k) = z) := ⟨_, Lib.hid rfl⟩
      obtain ⟨n9, hn9⟩ : ∃ z, Hid (L.length = z) := ⟨_, Lib.hid rfl⟩
      have hbn := @brkL_none r o h s k
      rw [hL.out, hn9.out] at hbn
      have HK := Lib.hid (fun X => breaksAt_is o h s (s + k) (s + k) (s + k) (s + k) r AT tn tc L X hg s0 s1 (by omega) (by omega) (by omega) (by split <;> rfl) (by split <;> rfl) hlm.1.1 hlm.1.2 hlm.2.1 hlm.2.2 hL)
      rw [hn9.out] at HK
      go_wp2_with fail
      refine (HK.out _).mono ?_
      rintro e x2 ⟨C, cc, rfl, _, hb2⟩
      have hB2 := Lib.hid (hB.trans (hb2.mono zb))
      replace GB := Lib.hid (GB.out.below hb2)
      replace RB := Lib.hid (RB.out.below hb2)
      replace ZB := Lib.hid (ZB.out.below hb2)
      replace OB := Lib.hid (OB.out.below hb2)
      clear g0 g1 r0 r1 r2 r3 r4 r5 r6 r7 r8 z0 z1 o0 o1 lo fo fz hB zb hb2 HK
      obtain ⟨o0, o1⟩ := b2 OB.out
      have lo := OB.out.lt
      have fo := OB.out.fz
      by_cases hin : P ≤ k ∧ k < Q
      · have hp1 : poorP r o s k = true := DP.out.2.2 k hin.1 (by omega)
        have hq1 : deepP r o h s k = false := DQ.out.2.1 k hin.2
        have hn0 : ¬ 0 < n9 := fun h => hbn.1 h ⟨hp1, hq1⟩
        obtain rfl : n9 = 0 := by omega
        have hst := stD_at hin.1 hin.2
        have hst2 := stD_in hin.1 hin.2
        by_cases hkP : k = P
        · rw [if_pos hkP] at hst
          obtain rfl : lo9 = -1 := by rw [← hlo9.out, hst]
          have HO : Hid (BlkF ((x2.setCell ⟨w.heap.size + 1 + 1 + 1, 0, none⟩ (.int .i64 k)).setCell ⟨w.heap.size + 1 + 1 + 1, 1, none⟩ (.int .i64 k)) w.heap.size (w.heap.size + 1 + 1 + 1) [.int .i64 (stD P Q (k + 1)).1, .int .i64 (stD P Q (k + 1)).2]) := Lib.hid (by
            rw [hst2, ← hkP]
            exact BlkF.st (vs' := [.int .i64 (k : Int), .int .i64 (k : Int)]) OB.out rfl)
          have HG := Lib.hid (GB.out.other (c := w.heap.size + 1 + 1 + 1) (i := 0) (l := [.int .i64 (k : Int), .int .i64 (k : Int)]) (by omega))
          have HR := Lib.hid (RB.out.other (c := w.heap.size + 1 + 1 + 1) (i := 0) (l := [.int .i64 (k : Int), .int .i64 (k : Int)]) (by omega))
          have HZ := Lib.hid (ZB.out.other (c := w.heap.size + 1 + 1 + 1) (i := 0) (l := [.int .i64 (k : Int), .int .i64 (k : Int)]) (by omega))
          have HBB := Lib.hid ((hB2.out.setCell (p := ⟨w.heap.size + 1 + 1 + 1, 0, none⟩) (by show w.heap.size ≤ w.heap.size + 1 + 1 + 1; omega) (.int .i64 (k : Int))).setCell (p := ⟨w.heap.size + 1 + 1 + 1, 1, none⟩) (by show w.heap.size ≤ w.heap.size + 1 + 1 + 1; omega) (.int .i64 (k : Int)))
          clear GB RB ZB OB hB2 hst hst2 hbn hn0 hkP
          go_wp2
          go_roundw
          case rel => exact ⟨k + 1, by omega, by go_num, HG, HR, HZ, HO, HBB⟩
          case measure => simp [intOf]; omega
        · rw [if_neg hkP] at hst
          obtain rfl : lo9 = (P : Int) := by rw [← hlo9.out, hst]
          have l0 : ¬ (P : Int) < 0 := by omega
          have HO : Hid (BlkF (x2.setCell ⟨w.heap.size + 1 + 1 + 1, 1, none⟩ (.int .i64 k)) w.heap.size (w.heap.size + 1 + 1 + 1) [.int .i64 (stD P Q (k + 1)).1, .int .i64 (stD P Q (k + 1)).2]) := Lib.hid (by
            rw [hst2]
            have := OB.out.putD (i := 1) (.int .i64 (k : Int)) (by simp)
            exact this)
          have HG := Lib.hid (GB.out.other (c := w.heap.size + 1 + 1 + 1) (i := 1) (l := [.int .i64 (k : Int)]) (by omega))
          have HR := Lib.hid (RB.out.other (c := w.heap.size + 1 + 1 + 1) (i := 1) (l := [.int .i64 (k : Int)]) (by omega))
          have HZ := Lib.hid (ZB.out.other (c := w.heap.size + 1 + 1 + 1) (i := 1) (l := [.int .i64 (k : Int)]) (by omega))
          have HBB := Lib.hid (hB2.out.setCell (p := ⟨w.heap.size + 1 + 1 + 1, 1, none⟩) (by show w.heap.size ≤ w.heap.size + 1 + 1 + 1; omega) (.int .i64 (k : Int)))
          clear GB RB ZB OB hB2 hst hst2 hbn hn0 hkP
          go_wp2
          go_roundw
          case rel => exact ⟨k + 1, by omega, by go_num, HG, HR, HZ, HO, HBB⟩
          case measure => simp [intOf]; omega
      · have hne : ¬ (poorP r o s k = true ∧ deepP r o h s k = false) := by
          rintro ⟨ha, hb⟩
          refine hin ⟨Nat.le_of_not_lt fun hlt => ?_, Nat.lt_of_not_le fun hle => ?_⟩
          · have := DP.out.2.1 k hlt
            rw [this] at ha; cases ha
          · have := DQ.out.2.2 k hle (by omega)
            rw [this] at hb; cases hb
        have hn0 := hbn.2 hne
        have hn1 : (0 : Int) < (n9 : Int) := by omega
        have hst2 := stD_out hin
        have HO : Hid (BlkF x2 w.heap.size (w.heap.size + 1 + 1 + 1) [.int .i64 (stD P Q (k + 1)).1, .int .i64 (stD P Q (k + 1)).2]) := Lib.hid (by rw [hst2, hlo9.out, hhi9.out]; exact OB.out)
        clear OB hst2 hbn hne
        go_wp2
        go_roundw
        case rel => exact ⟨k + 1, by omega, by go_num, GB, RB, ZB, HO, hB2⟩
        case measure => simp [intOf]; omega
    · have kn : ¬ (k : Int) ≤ 30000 := by omega
      obtain rfl : k = 30001 := by omega
      have hP' := hP.out
      unfold dptP at hP'
      rw [hPP.out, hQQ.out] at hP'
      have hst : stD P Q 30001 = if P < Q then ((P : Int), (Q : Int) - 1) else (-1, 0) := by unfold stD; rw [show min 30001 Q = Q by omega]
      by_cases hPQ : Q ≤ P
      · rw [if_pos hPQ] at hP'
        rw [if_neg (by omega)] at hst
        obtain ⟨h1, h2, h3⟩ := hP'
        obtain rfl : x = 0 := h1.symm
        obtain rfl : y = 0 := h2.symm
        obtain rfl : ok = false := by rw [← h3]; rfl
        obtain rfl : lo9 = -1 := by rw [← hlo9.out, hst]
        clear h1 h2 h3 hst
        go_wp2
        refine bodyPost_ret (v := .tuple #[.agg #[.int .i64 0, .int .i64 0], .bool false]) (by simp [results, Try.results39, go_sem, *]) rfl ⟨rfl, ?_⟩
        (repeat (first | (with_reducible refine Below.drew ?_) | (with_reducible refine below_drewN ?_ _) | (with_reducible refine Below.alloc ?_ (by first | omega | (simp; done) | (simp; omega) | (simp at *; omega)) _) | (with_reducible refine Below.setCell ?_ (by first | omega | (simp; done) | (simp; omega) | (simp at *; omega)) _) | (with_reducible exact Below.refl _ _) | (with_reducible assumption) | (with_reducible refine Below.trans ?_ (Below.mono (by assumption) (by first | omega | (simp; done) | (simp; omega) | (simp at *; omega))))))
      · rw [if_neg hPQ] at hP'
        rw [if_pos (by omega)] at hst
        obtain ⟨h1, h2, h3⟩ := hP'
        obtain rfl : x = (P : Int) := h1.symm
        obtain rfl : y = (Q : Int) - 1 := h2.symm
        obtain rfl : ok = true := by rw [← h3]; rfl
        obtain rfl : lo9 = (P : Int) := by rw [← hlo9.out, hst]
        obtain rfl : hi9 = (Q : Int) - 1 := by rw [← hhi9.out, hst]
        have l0 : ¬ (P : Int) < 0 := by omega
        clear h1 h2 h3 hst
        go_wp2
        refine bodyPost_ret (v := .tuple #[.agg #[.int .i64 (P : Int), .int .i64 ((Q : Int) - 1)], .bool true]) (by simp [results, Try.results39, go_sem, *]) rfl ⟨rfl, ?_⟩
        (repeat (first | (with_reducible refine Below.drew ?_) | (with_reducible refine below_drewN ?_ _) | (with_reducible refine Below.alloc ?_ (by first | omega | (simp; done) | (simp; omega) | (simp at *; omega)) _) | (with_reducible refine Below.setCell ?_ (by first | omega | (simp; done) | (simp; omega) | (simp at *; omega)) _) | (with_reducible exact Below.refl _ _) | (with_reducible assumption) | (with_reducible refine Below.trans ?_ (Below.mono (by assumption) (by first | omega | (simp; done) | (simp; omega) | (simp at *; omega))))))
end Go.Proofs.Ytijdphlejokijaa
