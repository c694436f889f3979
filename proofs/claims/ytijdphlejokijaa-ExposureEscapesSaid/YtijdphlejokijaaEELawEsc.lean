import Derived.Test.YtijdphlejokijaaEEEEsc
import Derived.Test.YtijdphlejokijaaEEEAwk
import Derived.Outline
namespace Go.Proofs.Ytijdphlejokijaa
open Go.ChangeShapes Go.WideShapes Go.ChangeAt Go.RowKit
set_option linter.unusedVariables false
set_option linter.unusedSimpArgs false
attribute [local go_sem ↓] Go.wp_at_zero Go.wp_at_succ
set_option maxRecDepth 100000 in
set_option maxHeartbeats 2000000 in
theorem esc_few (T : List Ox) (r : Ru) (A : Option Addr) (n cap : Nat) (su dep : Int) (w : World) (hn : Hid (n = T.length)) (hl : n ≤ 9223372036854775807) (hT : Hid (SlRows oxV 2 w A T)) (CA : Hid (A = none → n = 0 ∧ cap = 0)) (hF : Hid (fewB n = false)) :
    Calls Try.prog 13 #[.agg #[.slice A n cap, .int .i64 r.a, .int .i64 r.b, .int .i64 r.nc, .int .i64 r.dn, .int .i64 r.br, .int .i64 r.em, .int .i64 r.pa, .int .i64 r.sc], .int .i64 su, .int .i64 dep] w fun e w' => e = .returned (.bool true) ∧ Below w.heap.size w w' := by
  go_enter Try.func13, Try.ntmps13
  go_wp2_with fail
  refine (awake_any _).mono ?_
  rintro e x1 ⟨rfl, hb1⟩
  have hc1 : Below w.heap.size w x1 := ((Below.refl _ _).alloc (by first | exact Nat.le_refl _ | (simp; done) | (simp; omega)) _).trans (hb1.mono (by first | exact Nat.le_refl _ | (simp; done) | (simp; omega)))
  have hB1 : Below w.heap.size w x1 := hc1
  have zu1 := hB1.size
  have RP : Hid (BlkF x1 w.heap.size (w.heap.size) [.slice A n cap, .int .i64 r.a, .int .i64 r.b, .int .i64 r.nc, .int .i64 r.dn, .int .i64 r.br, .int .i64 r.em, .int .i64 r.pa, .int .i64 r.sc]) := Lib.hid ((BlkF.made (B := w.heap.size) w [.slice A n cap, .int .i64 r.a, .int .i64 r.b, .int .i64 r.nc, .int .i64 r.dn, .int .i64 r.br, .int .i64 r.em, .int .i64 r.pa, .int .i64 r.sc] 26 (by first | exact Nat.le_refl _ | (simp; done) | (simp; omega))).below hb1)
  have zRP1 := RP.out.lt
  clear hb1
  obtain ⟨RP_1_0, RP_1_1, RP_1_2, RP_1_3, RP_1_4, RP_1_5, RP_1_6, RP_1_7, RP_1_8⟩ := b9 RP.out
  have lRP_1 := RP.out.lt
  have nRP_1 : x1.heap.size ≠ w.heap.size := by omega
  have mRP_1 : w.heap.size ≠ x1.heap.size := by omega
  go_wp2_with fail
  refine (few_is r A n cap false _ hl hF).mono ?_
  rintro e x2 ⟨rfl, hb2⟩
  have hc2 : Below x1.heap.size x1 x2 := hb2
  have hB2 : Below w.heap.size w x2 := hB1.trans (hc2.mono hB1.size)
  have zu2 := hB2.size
  replace RP := Lib.hid (RP.out.below hc2)
  clear RP_1_0 RP_1_1 RP_1_2 RP_1_3 RP_1_4 RP_1_5 RP_1_6 RP_1_7 RP_1_8 lRP_1 nRP_1 mRP_1
  clear hb2 hB1 zu1 hc1
  obtain ⟨RP_2_0, RP_2_1, RP_2_2, RP_2_3, RP_2_4, RP_2_5, RP_2_6, RP_2_7, RP_2_8⟩ := b9 RP.out
  have lRP_2 := RP.out.lt
  have nRP_2 : x2.heap.size ≠ w.heap.size := by omega
  have mRP_2 : w.heap.size ≠ x2.heap.size := by omega
  go_wp2
  go_ret
  exact ⟨rfl, hB2⟩
theorem isSurf_r (n : Int) (r : Bool) (w : World) (h : Hid (inB n 400 1100 = r)) : Calls Try.prog 52 #[.int .i64 n] w fun e w' => e = .returned (.bool r) ∧ w = w' := by rw [← h.out]; exact IsSurface_any n w
theorem isDep_r (n : Int) (r : Bool) (w : World) (h : Hid (inB n 0 30000 = r)) : Calls Try.prog 53 #[.int .i64 n] w fun e w' => e = .returned (.bool r) ∧ w = w' := by rw [← h.out]; exact IsDepth_any n w
set_option maxRecDepth 100000 in
set_option maxHeartbeats 2000000 in
theorem esc_rules (T : List Ox) (r : Ru) (A : Option Addr) (n cap : Nat) (su dep E E1 : Int) (w : World) (hn : Hid (n = T.length)) (hl : n ≤ 9223372036854775807) (hT : Hid (SlRows oxV 2 w A T)) (CA : Hid (A = none → n = 0 ∧ cap = 0)) (hF : Hid (fewB n = true)) (hE1 : Hid (ruE T r = E1)) (hee : Hid (E = E1)) (hz : (E1 != 0) = true) (hz0 : (E1 == 0) = false) (HR : Hid (∀ (G : Option Addr) (c : Nat) (X : World), Hid (SlRows oxV 2 X G T) → Calls Try.prog 51 #[.agg #[.slice G n c, .int .i64 r.a, .int .i64 r.b, .int .i64 r.nc, .int .i64 r.dn, .int .i64 r.br, .int .i64 r.em, .int .i64 r.pa, .int .i64 r.sc], .int .i64 su, .int .i64 dep] X fun e w' => e = .returned (.tuple #[.int .i64 0, .int .i64 E]) ∧ Below X.heap.size X w')) :
    Calls Try.prog 13 #[.agg #[.slice A n cap, .int .i64 r.a, .int .i64 r.b, .int .i64 r.nc, .int .i64 r.dn, .int .i64 r.br, .int .i64 r.em, .int .i64 r.pa, .int .i64 r.sc], .int .i64 su, .int .i64 dep] w fun e w' => e = .returned (.bool true) ∧ Below w.heap.size w w' := by
  obtain rfl := hee.out
  have n22 : n ≤ 22 := fewB_le hF.out
  go_enter Try.func13, Try.ntmps13
  go_wp2_with fail
  refine (awake_any _).mono ?_
  rintro e x1 ⟨rfl, hb1⟩
  have hc1 : Below w.heap.size w x1 := ((Below.refl _ _).alloc (by first | exact Nat.le_refl _ | (simp; done) | (simp; omega)) _).trans (hb1.mono (by first | exact Nat.le_refl _ | (simp; done) | (simp; omega)))
  have hB1 : Below w.heap.size w x1 := hc1
  have zu1 := hB1.size
  have RP : Hid (BlkF x1 w.heap.size (w.heap.size) [.slice A n cap, .int .i64 r.a, .int .i64 r.b, .int .i64 r.nc, .int .i64 r.dn, .int .i64 r.br, .int .i64 r.em, .int .i64 r.pa, .int .i64 r.sc]) := Lib.hid ((BlkF.made (B := w.heap.size) w [.slice A n cap, .int .i64 r.a, .int .i64 r.b, .int .i64 r.nc, .int .i64 r.dn, .int .i64 r.br, .int .i64 r.em, .int .i64 r.pa, .int .i64 r.sc] 26 (by first | exact Nat.le_refl _ | (simp; done) | (simp; omega))).below hb1)
  have zRP1 := RP.out.lt
  clear hb1
  obtain ⟨RP_1_0, RP_1_1, RP_1_2, RP_1_3, RP_1_4, RP_1_5, RP_1_6, RP_1_7, RP_1_8⟩ := b9 RP.out
  have lRP_1 := RP.out.lt
  have nRP_1 : x1.heap.size ≠ w.heap.size := by omega
  have mRP_1 : w.heap.size ≠ x1.heap.size := by omega
  go_wp2_with fail
  refine (few_is r A n cap true _ hl hF).mono ?_
  rintro e x2 ⟨rfl, hb2⟩
  have hc2 : Below x1.heap.size x1 x2 := hb2
  have hB2 : Below w.heap.size w x2 := hB1.trans (hc2.mono hB1.size)
  have zu2 := hB2.size
  replace RP := Lib.hid (RP.out.below hc2)
  clear RP_1_0 RP_1_1 RP_1_2 RP_1_3 RP_1_4 RP_1_5 RP_1_6 RP_1_7 RP_1_8 lRP_1 nRP_1 mRP_1
  clear hb2 hB1 zu1 hc1
  obtain ⟨RP_2_0, RP_2_1, RP_2_2, RP_2_3, RP_2_4, RP_2_5, RP_2_6, RP_2_7, RP_2_8⟩ := b9 RP.out
  have lRP_2 := RP.out.lt
  have nRP_2 : x2.heap.size ≠ w.heap.size := by omega
  have mRP_2 : w.heap.size ≠ x2.heap.size := by omega
  go_wp2_with fail
  refine (copyR_is T r A n cap _ hn (by omega) (Lib.hid (hT.out.below (by (repeat (first | (with_reducible refine Below.drew ?_) | (with_reducible refine below_drewN ?_ _) | (with_reducible refine Below.alloc ?_ (by first | omega | (simp; done) | (simp; omega) | (simp at *; omega)) _) | (with_reducible refine Below.setCell ?_ (by first | omega | (simp; done) | (simp; omega) | (simp at *; omega)) _) | (with_reducible exact Below.refl _ _) | (with_reducible assumption) | (with_reducible refine Below.trans ?_ (Below.mono (by assumption) (by first | omega | (simp; done) | (simp; omega) | (simp at *; omega))))))))) CA).mono ?_
  rintro e x3 ⟨G1, c1, rfl, hs, hb3⟩
  have hc3 : Below x2.heap.size x2 x3 := hb3
  have hB3 : Below w.heap.size w x3 := hB2.trans (hc3.mono hB2.size)
  have zu3 := hB3.size
  replace RP := Lib.hid (RP.out.below hc3)
  have HG1 := Lib.hid hs
  clear hs
  clear RP_2_0 RP_2_1 RP_2_2 RP_2_3 RP_2_4 RP_2_5 RP_2_6 RP_2_7 RP_2_8 lRP_2 nRP_2 mRP_2
  clear hb3 hB2 zu2 hc2
  obtain ⟨RP_3_0, RP_3_1, RP_3_2, RP_3_3, RP_3_4, RP_3_5, RP_3_6, RP_3_7, RP_3_8⟩ := b9 RP.out
  have lRP_3 := RP.out.lt
  have nRP_3 : x3.heap.size ≠ w.heap.size := by omega
  have mRP_3 : w.heap.size ≠ x3.heap.size := by omega
  go_wp2_with fail
  refine (HR.out G1 c1 _ HG1).mono ?_
  rintro e x4 ⟨rfl, hb4⟩
  have hc4 : Below x3.heap.size x3 x4 := hb4
  have hB4 : Below w.heap.size w x4 := hB3.trans (hc4.mono hB3.size)
  have zu4 := hB4.size
  replace HG1 := Lib.hid (HG1.out.below hc4)
  replace RP := Lib.hid (RP.out.below hc4)
  clear RP_3_0 RP_3_1 RP_3_2 RP_3_3 RP_3_4 RP_3_5 RP_3_6 RP_3_7 RP_3_8 lRP_3 nRP_3 mRP_3
  clear hb4 hB3 zu3 hc3
  obtain ⟨RP_4_0, RP_4_1, RP_4_2, RP_4_3, RP_4_4, RP_4_5, RP_4_6, RP_4_7, RP_4_8⟩ := b9 RP.out
  have lRP_4 := RP.out.lt
  have nRP_4 : x4.heap.size ≠ w.heap.size := by omega
  have mRP_4 : w.heap.size ≠ x4.heap.size := by omega
  clear HG1
  go_wp2_with fail
  refine (refCheckRules_any T r A n cap E _ hn hl (Lib.hid (hT.out.below hB4)) hE1).mono ?_
  rintro e x5 ⟨rfl, hb5⟩
  have hc5 : Below x4.heap.size x4 x5 := hb5
  have hB5 : Below w.heap.size w x5 := hB4.trans (hc5.mono hB4.size)
  have zu5 := hB5.size
  replace RP := Lib.hid (RP.out.below hc5)
  clear RP_4_0 RP_4_1 RP_4_2 RP_4_3 RP_4_4 RP_4_5 RP_4_6 RP_4_7 RP_4_8 lRP_4 nRP_4 mRP_4
  clear hb5 hB4 zu4 hc4
  obtain ⟨RP_5_0, RP_5_1, RP_5_2, RP_5_3, RP_5_4, RP_5_5, RP_5_6, RP_5_7, RP_5_8⟩ := b9 RP.out
  have lRP_5 := RP.out.lt
  have nRP_5 : x5.heap.size ≠ w.heap.size := by omega
  have mRP_5 : w.heap.size ≠ x5.heap.size := by omega
  go_wp2
  go_ret
  exact ⟨rfl, hB5⟩
set_option maxRecDepth 100000 in
set_option maxHeartbeats 2000000 in
theorem esc_su (T : List Ox) (r : Ru) (A : Option Addr) (n cap : Nat) (su dep E1 E : Int) (w : World) (hn : Hid (n = T.length)) (hl : n ≤ 9223372036854775807) (hT : Hid (SlRows oxV 2 w A T)) (CA : Hid (A = none → n = 0 ∧ cap = 0)) (hF : Hid (fewB n = true)) (h0 : Hid (E1 = 0)) (hE1 : Hid (ruE T r = E1)) (he : Hid (E = 2)) (h2 : Hid (inB su 400 1100 = false)) (HR : Hid (∀ (G : Option Addr) (c : Nat) (X : World), Hid (SlRows oxV 2 X G T) → Calls Try.prog 51 #[.agg #[.slice G n c, .int .i64 r.a, .int .i64 r.b, .int .i64 r.nc, .int .i64 r.dn, .int .i64 r.br, .int .i64 r.em, .int .i64 r.pa, .int .i64 r.sc], .int .i64 su, .int .i64 dep] X fun e w' => e = .returned (.tuple #[.int .i64 0, .int .i64 E]) ∧ Below X.heap.size X w')) :
    Calls Try.prog 13 #[.agg #[.slice A n cap, .int .i64 r.a, .int .i64 r.b, .int .i64 r.nc, .int .i64 r.dn, .int .i64 r.br, .int .i64 r.em, .int .i64 r.pa, .int .i64 r.sc], .int .i64 su, .int .i64 dep] w fun e w' => e = .returned (.bool true) ∧ Below w.heap.size w w' := by
  obtain rfl := h0.out
  obtain rfl := he.out
  have n22 : n ≤ 22 := fewB_le hF.out
  go_enter Try.func13, Try.ntmps13
  go_wp2_with fail
  refine (awake_any _).mono ?_
  rintro e x1 ⟨rfl, hb1⟩
  have hc1 : Below w.heap.size w x1 := ((Below.refl _ _).alloc (by first | exact Nat.le_refl _ | (simp; done) | (simp; omega)) _).trans (hb1.mono (by first | exact Nat.le_refl _ | (simp; done) | (simp; omega)))
  have hB1 : Below w.heap.size w x1 := hc1
  have zu1 := hB1.size
  have RP : Hid (BlkF x1 w.heap.size (w.heap.size) [.slice A n cap, .int .i64 r.a, .int .i64 r.b, .int .i64 r.nc, .int .i64 r.dn, .int .i64 r.br, .int .i64 r.em, .int .i64 r.pa, .int .i64 r.sc]) := Lib.hid ((BlkF.made (B := w.heap.size) w [.slice A n cap, .int .i64 r.a, .int .i64 r.b, .int .i64 r.nc, .int .i64 r.dn, .int .i64 r.br, .int .i64 r.em, .int .i64 r.pa, .int .i64 r.sc] 26 (by first | exact Nat.le_refl _ | (simp; done) | (simp; omega))).below hb1)
  have zRP1 := RP.out.lt
  clear hb1
  obtain ⟨RP_1_0, RP_1_1, RP_1_2, RP_1_3, RP_1_4, RP_1_5, RP_1_6, RP_1_7, RP_1_8⟩ := b9 RP.out
  have lRP_1 := RP.out.lt
  have nRP_1 : x1.heap.size ≠ w.heap.size := by omega
  have mRP_1 : w.heap.size ≠ x1.heap.size := by omega
  go_wp2_with fail
  refine (few_is r A n cap true _ hl hF).mono ?_
  rintro e x2 ⟨rfl, hb2⟩
  have hc2 : Below x1.heap.size x1 x2 := hb2
  have hB2 : Below w.heap.size w x2 := hB1.trans (hc2.mono hB1.size)
  have zu2 := hB2.size
  replace RP := Lib.hid (RP.out.below hc2)
  clear RP_1_0 RP_1_1 RP_1_2 RP_1_3 RP_1_4 RP_1_5 RP_1_6 RP_1_7 RP_1_8 lRP_1 nRP_1 mRP_1
  clear hb2 hB1 zu1 hc1
  obtain ⟨RP_2_0, RP_2_1, RP_2_2, RP_2_3, RP_2_4, RP_2_5, RP_2_6, RP_2_7, RP_2_8⟩ := b9 RP.out
  have lRP_2 := RP.out.lt
  have nRP_2 : x2.heap.size ≠ w.heap.size := by omega
  have mRP_2 : w.heap.size ≠ x2.heap.size := by omega
  go_wp2_with fail
  refine (copyR_is T r A n cap _ hn (by omega) (Lib.hid (hT.out.below (by (repeat (first | (with_reducible refine Below.drew ?_) | (with_reducible refine below_drewN ?_ _) | (with_reducible refine Below.alloc ?_ (by first | omega | (simp; done) | (simp; omega) | (simp at *; omega)) _) | (with_reducible refine Below.setCell ?_ (by first | omega | (simp; done) | (simp; omega) | (simp at *; omega)) _) | (with_reducible exact Below.refl _ _) | (with_reducible assumption) | (with_reducible refine Below.trans ?_ (Below.mono (by assumption) (by first | omega | (simp; done) | (simp; omega) | (simp at *; omega))))))))) CA).mono ?_
  rintro e x3 ⟨G1, c1, rfl, hs, hb3⟩
  have hc3 : Below x2.heap.size x2 x3 := hb3
  have hB3 : Below w.heap.size w x3 := hB2.trans (hc3.mono hB2.size)
  have zu3 := hB3.size
  replace RP := Lib.hid (RP.out.below hc3)
  have HG1 := Lib.hid hs
  clear hs
  clear RP_2_0 RP_2_1 RP_2_2 RP_2_3 RP_2_4 RP_2_5 RP_2_6 RP_2_7 RP_2_8 lRP_2 nRP_2 mRP_2
  clear hb3 hB2 zu2 hc2
  obtain ⟨RP_3_0, RP_3_1, RP_3_2, RP_3_3, RP_3_4, RP_3_5, RP_3_6, RP_3_7, RP_3_8⟩ := b9 RP.out
  have lRP_3 := RP.out.lt
  have nRP_3 : x3.heap.size ≠ w.heap.size := by omega
  have mRP_3 : w.heap.size ≠ x3.heap.size := by omega
  go_wp2_with fail
  refine (HR.out G1 c1 _ HG1).mono ?_
  rintro e x4 ⟨rfl, hb4⟩
  have hc4 : Below x3.heap.size x3 x4 := hb4
  have hB4 : Below w.heap.size w x4 := hB3.trans (hc4.mono hB3.size)
  have zu4 := hB4.size
  replace HG1 := Lib.hid (HG1.out.below hc4)
  replace RP := Lib.hid (RP.out.below hc4)
  clear RP_3_0 RP_3_1 RP_3_2 RP_3_3 RP_3_4 RP_3_5 RP_3_6 RP_3_7 RP_3_8 lRP_3 nRP_3 mRP_3
  clear hb4 hB3 zu3 hc3
  obtain ⟨RP_4_0, RP_4_1, RP_4_2, RP_4_3, RP_4_4, RP_4_5, RP_4_6, RP_4_7, RP_4_8⟩ := b9 RP.out
  have lRP_4 := RP.out.lt
  have nRP_4 : x4.heap.size ≠ w.heap.size := by omega
  have mRP_4 : w.heap.size ≠ x4.heap.size := by omega
  clear HG1
  go_wp2_with fail
  refine (refCheckRules_any T r A n cap 0 _ hn hl (Lib.hid (hT.out.below hB4)) hE1).mono ?_
  rintro e x5 ⟨rfl, hb5⟩
  have hc5 : Below x4.heap.size x4 x5 := hb5
  have hB5 : Below w.heap.size w x5 := hB4.trans (hc5.mono hB4.size)
  have zu5 := hB5.size
  replace RP := Lib.hid (RP.out.below hc5)
  clear RP_4_0 RP_4_1 RP_4_2 RP_4_3 RP_4_4 RP_4_5 RP_4_6 RP_4_7 RP_4_8 lRP_4 nRP_4 mRP_4
  clear hb5 hB4 zu4 hc4
  obtain ⟨RP_5_0, RP_5_1, RP_5_2, RP_5_3, RP_5_4, RP_5_5, RP_5_6, RP_5_7, RP_5_8⟩ := b9 RP.out
  have lRP_5 := RP.out.lt
  have nRP_5 : x5.heap.size ≠ w.heap.size := by omega
  have mRP_5 : w.heap.size ≠ x5.heap.size := by omega
  go_wp2_with ((go_at_call 52; ((with_reducible refine (isSurf_r _ false _ h2).mono ?_)); rintro e w' ⟨rfl, rfl⟩))
  go_ret
  exact ⟨rfl, hB5⟩
set_option maxRecDepth 100000 in
set_option maxHeartbeats 2000000 in
theorem esc_dep (T : List Ox) (r : Ru) (A : Option Addr) (n cap : Nat) (su dep E1 E : Int) (w : World) (hn : Hid (n = T.length)) (hl : n ≤ 9223372036854775807) (hT : Hid (SlRows oxV 2 w A T)) (CA : Hid (A = none → n = 0 ∧ cap = 0)) (hF : Hid (fewB n = true)) (h0 : Hid (E1 = 0)) (hE1 : Hid (ruE T r = E1)) (he : Hid (E = 2)) (h2 : Hid (inB su 400 1100 = true)) (h3 : Hid (inB dep 0 30000 = false)) (HR : Hid (∀ (G : Option Addr) (c : Nat) (X : World), Hid (SlRows oxV 2 X G T) → Calls Try.prog 51 #[.agg #[.slice G n c, .int .i64 r.a, .int .i64 r.b, .int .i64 r.nc, .int .i64 r.dn, .int .i64 r.br, .int .i64 r.em, .int .i64 r.pa, .int .i64 r.sc], .int .i64 su, .int .i64 dep] X fun e w' => e = .returned (.tuple #[.int .i64 0, .int .i64 E]) ∧ Below X.heap.size X w')) :
    Calls Try.prog 13 #[.agg #[.slice A n cap, .int .i64 r.a, .int .i64 r.b, .int .i64 r.nc, .int .i64 r.dn, .int .i64 r.br, .int .i64 r.em, .int .i64 r.pa, .int .i64 r.sc], .int .i64 su, .int .i64 dep] w fun e w' => e = .returned (.bool true) ∧ Below w.heap.size w w' := by
  obtain rfl := h0.out
  obtain rfl := he.out
  have n22 : n ≤ 22 := fewB_le hF.out
  go_enter Try.func13, Try.ntmps13
  go_wp2_with fail
  refine (awake_any _).mono ?_
  rintro e x1 ⟨rfl, hb1⟩
  have hc1 : Below w.heap.size w x1 := ((Below.refl _ _).alloc (by first | exact Nat.le_refl _ | (simp; done) | (simp; omega)) _).trans (hb1.mono (by first | exact Nat.le_refl _ | (simp; done) | (simp; omega)))
  have hB1 : Below w.heap.size w x1 := hc1
  have zu1 := hB1.size
  have RP : Hid (BlkF x1 w.heap.size (w.heap.size) [.slice A n cap, .int .i64 r.a, .int .i64 r.b, .int .i64 r.nc, .int .i64 r.dn, .int .i64 r.br, .int .i64 r.em, .int .i64 r.pa, .int .i64 r.sc]) := Lib.hid ((BlkF.made (B := w.heap.size) w [.slice A n cap, .int .i64 r.a, .int .i64 r.b, .int .i64 r.nc, .int .i64 r.dn, .int .i64 r.br, .int .i64 r.em, .int .i64 r.pa, .int .i64 r.sc] 26 (by first | exact Nat.le_refl _ | (simp; done) | (simp; omega))).below hb1)
  have zRP1 := RP.out.lt
  clear hb1
  obtain ⟨RP_1_0, RP_1_1, RP_1_2, RP_1_3, RP_1_4, RP_1_5, RP_1_6, RP_1_7, RP_1_8⟩ := b9 RP.out
  have lRP_1 := RP.out.lt
  have nRP_1 : x1.heap.size ≠ w.heap.size := by omega
  have mRP_1 : w.heap.size ≠ x1.heap.size := by omega
  go_wp2_with fail
  refine (few_is r A n cap true _ hl hF).mono ?_
  rintro e x2 ⟨rfl, hb2⟩
  have hc2 : Below x1.heap.size x1 x2 := hb2
  have hB2 : Below w.heap.size w x2 := hB1.trans (hc2.mono hB1.size)
  have zu2 := hB2.size
  replace RP := Lib.hid (RP.out.below hc2)
  clear RP_1_0 RP_1_1 RP_1_2 RP_1_3 RP_1_4 RP_1_5 RP_1_6 RP_1_7 RP_1_8 lRP_1 nRP_1 mRP_1
  clear hb2 hB1 zu1 hc1
  obtain ⟨RP_2_0, RP_2_1, RP_2_2, RP_2_3, RP_2_4, RP_2_5, RP_2_6, RP_2_7, RP_2_8⟩ := b9 RP.out
  have lRP_2 := RP.out.lt
  have nRP_2 : x2.heap.size ≠ w.heap.size := by omega
  have mRP_2 : w.heap.size ≠ x2.heap.size := by omega
  go_wp2_with fail
  refine (copyR_is T r A n cap _ hn (by omega) (Lib.hid (hT.out.below (by (repeat (first | (with_reducible refine Below.drew ?_) | (with_reducible refine below_drewN ?_ _) | (with_reducible refine Below.alloc ?_ (by first | omega | (simp; done) | (simp; omega) | (simp at *; omega)) _) | (with_reducible refine Below.setCell ?_ (by first | omega | (simp; done) | (simp; omega) | (simp at *; omega)) _) | (with_reducible exact Below.refl _ _) | (with_reducible assumption) | (with_reducible refine Below.trans ?_ (Below.mono (by assumption) (by first | omega | (simp; done) | (simp; omega) | (simp at *; omega))))))))) CA).mono ?_
  rintro e x3 ⟨G1, c1, rfl, hs, hb3⟩
  have hc3 : Below x2.heap.size x2 x3 := hb3
  have hB3 : Below w.heap.size w x3 := hB2.trans (hc3.mono hB2.size)
  have zu3 := hB3.size
  replace RP := Lib.hid (RP.out.below hc3)
  have HG1 := Lib.hid hs
  clear hs
  clear RP_2_0 RP_2_1 RP_2_2 RP_2_3 RP_2_4 RP_2_5 RP_2_6 RP_2_7 RP_2_8 lRP_2 nRP_2 mRP_2
  clear hb3 hB2 zu2 hc2
  obtain ⟨RP_3_0, RP_3_1, RP_3_2, RP_3_3, RP_3_4, RP_3_5, RP_3_6, RP_3_7, RP_3_8⟩ := b9 RP.out
  have lRP_3 := RP.out.lt
  have nRP_3 : x3.heap.size ≠ w.heap.size := by omega
  have mRP_3 : w.heap.size ≠ x3.heap.size := by omega
  go_wp2_with fail
  refine (HR.out G1 c1 _ HG1).mono ?_
  rintro e x4 ⟨rfl, hb4⟩
  have hc4 : Below x3.heap.size x3 x4 := hb4
  have hB4 : Below w.heap.size w x4 := hB3.trans (hc4.mono hB3.size)
  have zu4 := hB4.size
  replace HG1 := Lib.hid (HG1.out.below hc4)
  replace RP := Lib.hid (RP.out.below hc4)
  clear RP_3_0 RP_3_1 RP_3_2 RP_3_3 RP_3_4 RP_3_5 RP_3_6 RP_3_7 RP_3_8 lRP_3 nRP_3 mRP_3
  clear hb4 hB3 zu3 hc3
  obtain ⟨RP_4_0, RP_4_1, RP_4_2, RP_4_3, RP_4_4, RP_4_5, RP_4_6, RP_4_7, RP_4_8⟩ := b9 RP.out
  have lRP_4 := RP.out.lt
  have nRP_4 : x4.heap.size ≠ w.heap.size := by omega
  have mRP_4 : w.heap.size ≠ x4.heap.size := by omega
  clear HG1
  go_wp2_with fail
  refine (refCheckRules_any T r A n cap 0 _ hn hl (Lib.hid (hT.out.below hB4)) hE1).mono ?_
  rintro e x5 ⟨rfl, hb5⟩
  have hc5 : Below x4.heap.size x4 x5 := hb5
  have hB5 : Below w.heap.size w x5 := hB4.trans (hc5.mono hB4.size)
  have zu5 := hB5.size
  replace RP := Lib.hid (RP.out.below hc5)
  clear RP_4_0 RP_4_1 RP_4_2 RP_4_3 RP_4_4 RP_4_5 RP_4_6 RP_4_7 RP_4_8 lRP_4 nRP_4 mRP_4
  clear hb5 hB4 zu4 hc4
  obtain ⟨RP_5_0, RP_5_1, RP_5_2, RP_5_3, RP_5_4, RP_5_5, RP_5_6, RP_5_7, RP_5_8⟩ := b9 RP.out
  have lRP_5 := RP.out.lt
  have nRP_5 : x5.heap.size ≠ w.heap.size := by omega
  have mRP_5 : w.heap.size ≠ x5.heap.size := by omega
  go_wp2_with (first | (go_at_call 52; ((with_reducible refine (isSurf_r _ true _ h2).mono ?_)); rintro e w' ⟨rfl, rfl⟩) | (go_at_call 53; ((with_reducible refine (isDep_r _ false _ h3).mono ?_)); rintro e w' ⟨rfl, rfl⟩))
  go_ret
  exact ⟨rfl, hB5⟩
set_option maxRecDepth 100000 in
set_option maxHeartbeats 2000000 in
theorem esc_good (T : List Ox) (r : Ru) (A : Option Addr) (n cap : Nat) (su dep m v1 v2 : Int) (w : World) (hn : Hid (n = T.length)) (hl : n ≤ 9223372036854775807) (hT : Hid (SlRows oxV 2 w A T)) (CA : Hid (A = none → n = 0 ∧ cap = 0)) (hF : Hid (fewB n = true)) (hE1 : Hid (ruE T r = 0)) (h2 : Hid (inB su 400 1100 = true)) (h3 : Hid (inB dep 0 30000 = true)) (s0 : 400 ≤ su) (s1 : su ≤ 1100) (d0 : 0 ≤ dep) (d1 : dep ≤ 30000) (hm : (dep + 100 ≤ 30000 ∧ m = dep + 100) ∨ (30000 < dep + 100 ∧ m = 30000)) (hv1 : Hid (escV r su dep = v1)) (hvv : v1 ≤ v2) (HR1 : Hid (∀ (G : Option Addr) (c : Nat) (X : World), Hid (SlRows oxV 2 X G T) → Calls Try.prog 51 #[.agg #[.slice G n c, .int .i64 r.a, .int .i64 r.b, .int .i64 r.nc, .int .i64 r.dn, .int .i64 r.br, .int .i64 r.em, .int .i64 r.pa, .int .i64 r.sc], .int .i64 su, .int .i64 (dep)] X fun e w' => e = .returned (.tuple #[.int .i64 v1, .int .i64 0]) ∧ Below X.heap.size X w')) (HR2 : Hid (∀ (G : Option Addr) (c : Nat) (X : World), Hid (SlRows oxV 2 X G T) → Calls Try.prog 51 #[.agg #[.slice G n c, .int .i64 r.a, .int .i64 r.b, .int .i64 r.nc, .int .i64 r.dn, .int .i64 r.br, .int .i64 r.em, .int .i64 r.pa, .int .i64 r.sc], .int .i64 su, .int .i64 (m)] X fun e w' => e = .returned (.tuple #[.int .i64 v2, .int .i64 0]) ∧ Below X.heap.size X w')) :
    Calls Try.prog 13 #[.agg #[.slice A n cap, .int .i64 r.a, .int .i64 r.b, .int .i64 r.nc, .int .i64 r.dn, .int .i64 r.br, .int .i64 r.em, .int .i64 r.pa, .int .i64 r.sc], .int .i64 su, .int .i64 dep] w fun e w' => e = .returned (.bool true) ∧ Below w.heap.size w w' := by
  have n22 : n ≤ 22 := fewB_le hF.out
  have hw : IntKind.i64.wrap (dep + 100) = dep + 100 := IntWalk.i64_in _ (by omega)
  go_enter Try.func13, Try.ntmps13
  go_wp2_with fail
  refine (awake_any _).mono ?_
  rintro e x1 ⟨rfl, hb1⟩
  have hc1 : Below w.heap.size w x1 := ((Below.refl _ _).alloc (by first | exact Nat.le_refl _ | (simp; done) | (simp; omega)) _).trans (hb1.mono (by first | exact Nat.le_refl _ | (simp; done) | (simp; omega)))
  have hB1 : Below w.heap.size w x1 := hc1
  have zu1 := hB1.size
  have RP : Hid (BlkF x1 w.heap.size (w.heap.size) [.slice A n cap, .int .i64 r.a, .int .i64 r.b, .int .i64 r.nc, .int .i64 r.dn, .int .i64 r.br, .int .i64 r.em, .int .i64 r.pa, .int .i64 r.sc]) := Lib.hid ((BlkF.made (B := w.heap.size) w [.slice A n cap, .int .i64 r.a, .int .i64 r.b, .int .i64 r.nc, .int .i64 r.dn, .int .i64 r.br, .int .i64 r.em, .int .i64 r.pa, .int .i64 r.sc] 26 (by first | exact Nat.le_refl _ | (simp; done) | (simp; omega))).below hb1)
  have zRP1 := RP.out.lt
  clear hb1
  obtain ⟨RP_1_0, RP_1_1, RP_1_2, RP_1_3, RP_1_4, RP_1_5, RP_1_6, RP_1_7, RP_1_8⟩ := b9 RP.out
  have lRP_1 := RP.out.lt
  have nRP_1 : x1.heap.size ≠ w.heap.size := by omega
  have mRP_1 : w.heap.size ≠ x1.heap.size := by omega
  go_wp2_with fail
  refine (few_is r A n cap true _ hl hF).mono ?_
  rintro e x2 ⟨rfl, hb2⟩
  have hc2 : Below x1.heap.size x1 x2 := hb2
  have hB2 : Below w.heap.size w x2 := hB1.trans (hc2.mono hB1.size)
  have zu2 := hB2.size
  replace RP := Lib.hid (RP.out.below hc2)
  clear RP_1_0 RP_1_1 RP_1_2 RP_1_3 RP_1_4 RP_1_5 RP_1_6 RP_1_7 RP_1_8 lRP_1 nRP_1 mRP_1
  clear hb2 hB1 zu1 hc1
  obtain ⟨RP_2_0, RP_2_1, RP_2_2, RP_2_3, RP_2_4, RP_2_5, RP_2_6, RP_2_7, RP_2_8⟩ := b9 RP.out
  have lRP_2 := RP.out.lt
  have nRP_2 : x2.heap.size ≠ w.heap.size := by omega
  have mRP_2 : w.heap.size ≠ x2.heap.size := by omega
  go_wp2_with fail
  refine (copyR_is T r A n cap _ hn (by omega) (Lib.hid (hT.out.below (by (repeat (first | (with_reducible refine Below.drew ?_) | (with_reducible refine below_drewN ?_ _) | (with_reducible refine Below.alloc ?_ (by first | omega | (simp; done) | (simp; omega) | (simp at *; omega)) _) | (with_reducible refine Below.setCell ?_ (by first | omega | (simp; done) | (simp; omega) | (simp at *; omega)) _) | (with_reducible exact Below.refl _ _) | (with_reducible assumption) | (with_reducible refine Below.trans ?_ (Below.mono (by assumption) (by first | omega | (simp; done) | (simp; omega) | (simp at *; omega))))))))) CA).mono ?_
  rintro e x3 ⟨G1, c1, rfl, hs, hb3⟩
  have hc3 : Below x2.heap.size x2 x3 := hb3
  have hB3 : Below w.heap.size w x3 := hB2.trans (hc3.mono hB2.size)
  have zu3 := hB3.size
  replace RP := Lib.hid (RP.out.below hc3)
  have HG1 := Lib.hid hs
  clear hs
  clear RP_2_0 RP_2_1 RP_2_2 RP_2_3 RP_2_4 RP_2_5 RP_2_6 RP_2_7 RP_2_8 lRP_2 nRP_2 mRP_2
  clear hb3 hB2 zu2 hc2
  obtain ⟨RP_3_0, RP_3_1, RP_3_2, RP_3_3, RP_3_4, RP_3_5, RP_3_6, RP_3_7, RP_3_8⟩ := b9 RP.out
  have lRP_3 := RP.out.lt
  have nRP_3 : x3.heap.size ≠ w.heap.size := by omega
  have mRP_3 : w.heap.size ≠ x3.heap.size := by omega
  go_wp2_with fail
  refine (HR1.out G1 c1 _ HG1).mono ?_
  rintro e x4 ⟨rfl, hb4⟩
  have hc4 : Below x3.heap.size x3 x4 := hb4
  have hB4 : Below w.heap.size w x4 := hB3.trans (hc4.mono hB3.size)
  have zu4 := hB4.size
  replace HG1 := Lib.hid (HG1.out.below hc4)
  replace RP := Lib.hid (RP.out.below hc4)
  clear RP_3_0 RP_3_1 RP_3_2 RP_3_3 RP_3_4 RP_3_5 RP_3_6 RP_3_7 RP_3_8 lRP_3 nRP_3 mRP_3
  clear hb4 hB3 zu3 hc3
  obtain ⟨RP_4_0, RP_4_1, RP_4_2, RP_4_3, RP_4_4, RP_4_5, RP_4_6, RP_4_7, RP_4_8⟩ := b9 RP.out
  have lRP_4 := RP.out.lt
  have nRP_4 : x4.heap.size ≠ w.heap.size := by omega
  have mRP_4 : w.heap.size ≠ x4.heap.size := by omega
  clear HG1
  go_wp2_with fail
  refine (refCheckRules_any T r A n cap 0 _ hn hl (Lib.hid (hT.out.below hB4)) hE1).mono ?_
  rintro e x5 ⟨rfl, hb5⟩
  have hc5 : Below x4.heap.size x4 x5 := hb5
  have hB5 : Below w.heap.size w x5 := hB4.trans (hc5.mono hB4.size)
  have zu5 := hB5.size
  replace RP := Lib.hid (RP.out.below hc5)
  clear RP_4_0 RP_4_1 RP_4_2 RP_4_3 RP_4_4 RP_4_5 RP_4_6 RP_4_7 RP_4_8 lRP_4 nRP_4 mRP_4
  clear hb5 hB4 zu4 hc4
  obtain ⟨RP_5_0, RP_5_1, RP_5_2, RP_5_3, RP_5_4, RP_5_5, RP_5_6, RP_5_7, RP_5_8⟩ := b9 RP.out
  have lRP_5 := RP.out.lt
  have nRP_5 : x5.heap.size ≠ w.heap.size := by omega
  have mRP_5 : w.heap.size ≠ x5.heap.size := by omega
  go_wp2_with (first | (go_at_call 52; ((with_reducible refine (isSurf_r _ true _ h2).mono ?_)); rintro e w' ⟨rfl, rfl⟩) | (go_at_call 53; ((with_reducible refine (isDep_r _ true _ h3).mono ?_)); rintro e w' ⟨rfl, rfl⟩))
  go_wp2_with fail
  refine (copyR_is T r A n cap _ hn (by omega) (Lib.hid (hT.out.below (by (repeat (first | (with_reducible refine Below.drew ?_) | (with_reducible refine below_drewN ?_ _) | (with_reducible refine Below.alloc ?_ (by first | omega | (simp; done) | (simp; omega) | (simp at *; omega)) _) | (with_reducible refine Below.setCell ?_ (by first | omega | (simp; done) | (simp; omega) | (simp at *; omega)) _) | (with_reducible exact Below.refl _ _) | (with_reducible assumption) | (with_reducible refine Below.trans ?_ (Below.mono (by assumption) (by first | omega | (simp; done) | (simp; omega) | (simp at *; omega))))))))) CA).mono ?_
  rintro e x6 ⟨G2, c2, rfl, hs, hb6⟩
  have hc6 : Below x5.heap.size x5 x6 := hb6
  have hB6 : Below w.heap.size w x6 := hB5.trans (hc6.mono hB5.size)
  have zu6 := hB6.size
  replace RP := Lib.hid (RP.out.below hc6)
  have HG2 := Lib.hid hs
  clear hs
  clear RP_5_0 RP_5_1 RP_5_2 RP_5_3 RP_5_4 RP_5_5 RP_5_6 RP_5_7 RP_5_8 lRP_5 nRP_5 mRP_5
  clear hb6 hB5 zu5 hc5
  obtain ⟨RP_6_0, RP_6_1, RP_6_2, RP_6_3, RP_6_4, RP_6_5, RP_6_6, RP_6_7, RP_6_8⟩ := b9 RP.out
  have lRP_6 := RP.out.lt
  have nRP_6 : x6.heap.size ≠ w.heap.size := by omega
  have mRP_6 : w.heap.size ≠ x6.heap.size := by omega
  rcases hm with ⟨h5, rfl⟩ | ⟨h5, rfl⟩
  · have h6 : ¬ (30000 : Int) < dep + 100 := by omega
    go_wp2_with fail
    refine (HR2.out G2 c2 _ HG2).mono ?_
    rintro e x7 ⟨rfl, hb7⟩
    have hc7 : Below x6.heap.size x6 x7 := hb7
    have hB7 : Below w.heap.size w x7 := hB6.trans (hc7.mono hB6.size)
    have zu7 := hB7.size
    replace HG2 := Lib.hid (HG2.out.below hc7)
    replace RP := Lib.hid (RP.out.below hc7)
    clear RP_6_0 RP_6_1 RP_6_2 RP_6_3 RP_6_4 RP_6_5 RP_6_6 RP_6_7 RP_6_8 lRP_6 nRP_6 mRP_6
    clear hb7 hB6 zu6 hc6
    obtain ⟨RP_7_0, RP_7_1, RP_7_2, RP_7_3, RP_7_4, RP_7_5, RP_7_6, RP_7_7, RP_7_8⟩ := b9 RP.out
    have lRP_7 := RP.out.lt
    have nRP_7 : x7.heap.size ≠ w.heap.size := by omega
    have mRP_7 : w.heap.size ≠ x7.heap.size := by omega
    clear HG2
    go_wp2_with fail
    refine (refEscape_is T r A n cap su dep v1 _ (Lib.hid (ru_ok hE1.out)) s0 s1 d0 d1 hv1).mono ?_
    rintro e x8 ⟨rfl, hb8⟩
    have hc8 : Below x7.heap.size x7 x8 := hb8
    have hB8 : Below w.heap.size w x8 := hB7.trans (hc8.mono hB7.size)
    have zu8 := hB8.size
    replace RP := Lib.hid (RP.out.below hc8)
    clear RP_7_0 RP_7_1 RP_7_2 RP_7_3 RP_7_4 RP_7_5 RP_7_6 RP_7_7 RP_7_8 lRP_7 nRP_7 mRP_7
    clear hb8 hB7 zu7 hc7
    obtain ⟨RP_8_0, RP_8_1, RP_8_2, RP_8_3, RP_8_4, RP_8_5, RP_8_6, RP_8_7, RP_8_8⟩ := b9 RP.out
    have lRP_8 := RP.out.lt
    have nRP_8 : x8.heap.size ≠ w.heap.size := by omega
    have mRP_8 : w.heap.size ≠ x8.heap.size := by omega
    go_wp2
    go_ret
    exact ⟨rfl, hB8⟩
  · have h6 : ¬ dep + 100 ≤ 30000 := by omega
    go_wp2_with fail
    refine (HR2.out G2 c2 _ HG2).mono ?_
    rintro e x7 ⟨rfl, hb7⟩
    have hc7 : Below x6.heap.size x6 x7 := hb7
    have hB7 : Below w.heap.size w x7 := hB6.trans (hc7.mono hB6.size)
    have zu7 := hB7.size
    replace HG2 := Lib.hid (HG2.out.below hc7)
    replace RP := Lib.hid (RP.out.below hc7)
    clear RP_6_0 RP_6_1 RP_6_2 RP_6_3 RP_6_4 RP_6_5 RP_6_6 RP_6_7 RP_6_8 lRP_6 nRP_6 mRP_6
    clear hb7 hB6 zu6 hc6
    obtain ⟨RP_7_0, RP_7_1, RP_7_2, RP_7_3, RP_7_4, RP_7_5, RP_7_6, RP_7_7, RP_7_8⟩ := b9 RP.out
    have lRP_7 := RP.out.lt
    have nRP_7 : x7.heap.size ≠ w.heap.size := by omega
    have mRP_7 : w.heap.size ≠ x7.heap.size := by omega
    clear HG2
    go_wp2_with fail
    refine (refEscape_is T r A n cap su dep v1 _ (Lib.hid (ru_ok hE1.out)) s0 s1 d0 d1 hv1).mono ?_
    rintro e x8 ⟨rfl, hb8⟩
    have hc8 : Below x7.heap.size x7 x8 := hb8
    have hB8 : Below w.heap.size w x8 := hB7.trans (hc8.mono hB7.size)
    have zu8 := hB8.size
    replace RP := Lib.hid (RP.out.below hc8)
    clear RP_7_0 RP_7_1 RP_7_2 RP_7_3 RP_7_4 RP_7_5 RP_7_6 RP_7_7 RP_7_8 lRP_7 nRP_7 mRP_7
    clear hb8 hB7 zu7 hc7
    obtain ⟨RP_8_0, RP_8_1, RP_8_2, RP_8_3, RP_8_4, RP_8_5, RP_8_6, RP_8_7, RP_8_8⟩ := b9 RP.out
    have lRP_8 := RP.out.lt
    have nRP_8 : x8.heap.size ≠ w.heap.size := by omega
    have mRP_8 : w.heap.size ≠ x8.heap.size := by omega
    go_wp2
    go_ret
    exact ⟨rfl, hB8⟩
theorem exposureEscapes_r (T : List Ox) (r : Ru) (A : Option Addr) (n cap : Nat) (su dep : Int) (w : World) (hn : Hid (n = T.length)) (hl : n ≤ 9223372036854775807) (hT : Hid (SlRows oxV 2 w A T)) (CA : Hid (A = none → n = 0 ∧ cap = 0)) :
    Calls Try.prog 13 #[.agg #[.slice A n cap, .int .i64 r.a, .int .i64 r.b, .int .i64 r.nc, .int .i64 r.dn, .int .i64 r.br, .int .i64 r.em, .int .i64 r.pa, .int .i64 r.sc], .int .i64 su, .int .i64 dep] w fun e w' => e = .returned (.bool true) ∧ Below w.heap.size w w' := by
  cases hF : fewB n with
  | false => exact esc_few T r A n cap su dep w hn hl hT CA (Lib.hid hF)
  | true =>
    have H : ∀ (d E : Int), firE [ruE T r, rngE su 400 1100, rngE d 0 30000] = E → ∀ (G : Option Addr) (c : Nat) (X : World), Hid (SlRows oxV 2 X G T) → Calls Try.prog 51 #[.agg #[.slice G n c, .int .i64 r.a, .int .i64 r.b, .int .i64 r.nc, .int .i64 r.dn, .int .i64 r.br, .int .i64 r.em, .int .i64 r.pa, .int .i64 r.sc], .int .i64 su, .int .i64 d] X fun e w' => (¬ E = 0 ∧ e = .returned (.tuple #[.int .i64 0, .int .i64 E]) ∧ Below X.heap.size X w') ∨ (E = 0 ∧ e = .returned (.tuple #[.int .i64 (escV r su d), .int .i64 0]) ∧ Below X.heap.size X w') := fun d E hE G c X hX => EscapeFrom_any T r G n c su d _ _ _ E X hn hl hX (Lib.hid rfl) (Lib.hid rfl) (Lib.hid rfl) (Lib.hid hE)
    have HB : ∀ (d E : Int), firE [ruE T r, rngE su 400 1100, rngE d 0 30000] = E → ¬ E = 0 → ∀ (G : Option Addr) (c : Nat) (X : World), Hid (SlRows oxV 2 X G T) → Calls Try.prog 51 #[.agg #[.slice G n c, .int .i64 r.a, .int .i64 r.b, .int .i64 r.nc, .int .i64 r.dn, .int .i64 r.br, .int .i64 r.em, .int .i64 r.pa, .int .i64 r.sc], .int .i64 su, .int .i64 d] X fun e w' => e = .returned (.tuple #[.int .i64 0, .int .i64 E]) ∧ Below X.heap.size X w' := fun d E hE h0 G c X hX => (H d E hE G c X hX).mono fun e w' h => by
      rcases h with ⟨_, h⟩ | ⟨h, _⟩
      · exact h
      · exact absurd h h0
    by_cases h1 : ruE T r = 0
    · cases h2 : inB su 400 1100 with
      | false =>
        have hE : firE [ruE T r, rngE su 400 1100, rngE dep 0 30000] = 2 := by rw [h1, rngE_f h2]; rfl
        exact esc_su T r A n cap su dep 0 2 w hn hl hT CA (Lib.hid hF) (Lib.hid rfl) (Lib.hid h1) (Lib.hid rfl) (Lib.hid h2) (Lib.hid (HB dep 2 hE (by decide)))
      | true =>
        cases h3 : inB dep 0 30000 with
        | false =>
          have hE : firE [ruE T r, rngE su 400 1100, rngE dep 0 30000] = 2 := by rw [h1, rngE_t h2, rngE_f h3]; rfl
          exact esc_dep T r A n cap su dep 0 2 w hn hl hT CA (Lib.hid hF) (Lib.hid rfl) (Lib.hid h1) (Lib.hid rfl) (Lib.hid h2) (Lib.hid h3) (Lib.hid (HB dep 2 hE (by decide)))
        | true =>
          have b2 := inB_iff.1 h2
          have b3 := inB_iff.1 h3
          have HG : ∀ (d : Int), 0 ≤ d → d ≤ 30000 → ∀ (G : Option Addr) (c : Nat) (X : World), Hid (SlRows oxV 2 X G T) → Calls Try.prog 51 #[.agg #[.slice G n c, .int .i64 r.a, .int .i64 r.b, .int .i64 r.nc, .int .i64 r.dn, .int .i64 r.br, .int .i64 r.em, .int .i64 r.pa, .int .i64 r.sc], .int .i64 su, .int .i64 d] X fun e w' => e = .returned (.tuple #[.int .i64 (escV r su d), .int .i64 0]) ∧ Below X.heap.size X w' := fun d d0 d1 G c X hX => (H d 0 (by rw [h1, rngE_t h2, rngE_t (inB_true d0 d1)]; rfl) G c X hX).mono fun e w' h => by
            rcases h with ⟨h, _⟩ | ⟨_, h⟩
            · exact absurd rfl h
            · exact h
          by_cases h5 : dep + 100 ≤ 30000
          · exact esc_good T r A n cap su dep (dep + 100) _ _ w hn hl hT CA (Lib.hid hF) (Lib.hid h1) (Lib.hid h2) (Lib.hid h3) b2.1 b2.2 b3.1 b3.2 (Or.inl ⟨h5, rfl⟩) (Lib.hid rfl) (escV_mono (ru_ok h1) (by omega) b3.1 (by omega)) (Lib.hid (HG dep b3.1 b3.2)) (Lib.hid (HG (dep + 100) (by omega) h5))
          · exact esc_good T r A n cap su dep 30000 _ _ w hn hl hT CA (Lib.hid hF) (Lib.hid h1) (Lib.hid h2) (Lib.hid h3) b2.1 b2.2 b3.1 b3.2 (Or.inr ⟨by omega, rfl⟩) (Lib.hid rfl) (escV_mono (ru_ok h1) (by omega) b3.1 b3.2) (Lib.hid (HG dep b3.1 b3.2)) (Lib.hid (HG 30000 (by omega) (by omega)))
    · have hE : firE [ruE T r, rngE su 400 1100, rngE dep 0 30000] = ruE T r := by rw [firE, if_neg h1]
      exact esc_rules T r A n cap su dep _ _ w hn hl hT CA (Lib.hid hF) (Lib.hid rfl) (Lib.hid rfl) (by simpa using h1) (by simpa using h1) (Lib.hid (HB dep _ hE h1))
theorem nilCap {α : Type} {f : α → List Value} {k : Nat} {w : World} {A : Option Addr} {L : List α} {c : Nat} (h : SlRows f k w A L) (hn : A = none → c = 0) : A = none → L.length = 0 ∧ c = 0 := fun e => by
  rcases h with h | ⟨b, o, h, _⟩
  · exact ⟨by rw [h]; rfl, hn e⟩
  · rw [e] at h; cases h
theorem exposureEscapes_any (T : List Ox) (A : Option Addr) (cap : Nat) (ra rb rnc rdn rbr rem rpa rsc : Int) (su : Int) (dep : Int) (w : World) (hTl : T.length ≤ 9223372036854775807) (hTn : A = none → cap = 0) (hTs : SlRows oxV 2 w A T) :
    Calls Try.prog 13 #[.agg #[.slice A T.length cap, .int .i64 ra, .int .i64 rb, .int .i64 rnc, .int .i64 rdn, .int .i64 rbr, .int .i64 rem, .int .i64 rpa, .int .i64 rsc], .int .i64 su, .int .i64 dep] w fun e w' => e = .returned (.bool true) ∧ Below w.heap.size w w' := by
  exact exposureEscapes_r T ⟨ra, rb, rnc, rdn, rbr, rem, rpa, rsc⟩ A T.length cap su dep w (Lib.hid rfl) hTl (Lib.hid hTs) (Lib.hid (nilCap hTs hTn))
end Go.Proofs.Ytijdphlejokijaa
