import Derived.Test.YtijdphlejokijaaEFEEsc
import Derived.Test.YtijdphlejokijaaEFEAwk
import Derived.Outline
namespace Go.Proofs.Ytijdphlejokijaa
open Go.ChangeShapes Go.WideShapes Go.ChangeAt Go.RowKit
set_option linter.unusedVariables false
set_option linter.unusedSimpArgs false
attribute [local go_sem ↓] Go.wp_at_zero Go.wp_at_succ
set_option maxRecDepth 100000 in
set_option maxHeartbeats 2000000 in
theorem rat_few (T : List Ox) (r : Ru) (A : Option Addr) (n cap : Nat) (p : Int) (w : World) (hn : Hid (n = T.length)) (hl : n ≤ 9223372036854775807) (hT : Hid (SlRows oxV 2 w A T)) (CA : Hid (A = none → n = 0 ∧ cap = 0)) (hF : Hid (fewB n = false)) :
    Calls Try.prog 3 #[.agg #[.slice A n cap, .int .i64 r.a, .int .i64 r.b, .int .i64 r.nc, .int .i64 r.dn, .int .i64 r.br, .int .i64 r.em, .int .i64 r.pa, .int .i64 r.sc], .int .i64 p] w fun e w' => e = .returned (.bool true) ∧ Below w.heap.size w w' := by
  go_enter Try.func3, Try.ntmps3
  go_wp2_with fail
  refine (awake_any _).mono ?_
  rintro e x1 ⟨rfl, hb1⟩
  have hc1 : Below w.heap.size w x1 := ((Below.refl _ _).alloc (by first | exact Nat.le_refl _ | (simp; done) | (simp; omega)) _).trans (hb1.mono (by first | exact Nat.le_refl _ | (simp; done) | (simp; omega)))
  have hB1 : Below w.heap.size w x1 := hc1
  have zu1 := hB1.size
  have RP : Hid (BlkF x1 w.heap.size (w.heap.size) [.slice A n cap, .int .i64 r.a, .int .i64 r.b, .int .i64 r.nc, .int .i64 r.dn, .int .i64 r.br, .int .i64 r.em, .int .i64 r.pa, .int .i64 r.sc]) := Lib.hid ((BlkF.made (B := w.heap.size) w [.slice A n cap, .int .i64 r.a, .int .i64 r.b, .int .i64 r.nc, .int .i64 r.dn, .int .i64 r.br, .int .i64 r.em, .int .i64 r.pa, .int .i64 r.sc] 26 (by first | exact Nat.le_refl _ | (simp; done) | (simp; omega))).below hb1)
  have zRP1 := RP.out.lt
  clear hb1
  obtain ⟨RP_1_0, RP_1_1, RP_1_2, RP_1_3, RP_1_4, RP_1_5, RP_1_6, RP_1_7, RP_1_8⟩ := b9 RP.out
  have lRP_1 := RP.out.lt
  have nRP_1 : x1.heap.size ≠ w.heap.size := by omega
  have mRP_1 : w.heap.size ≠ x1.heap.size := by omega
  go_wp2_with fail
  refine (few_is r A n cap false _ hl hF).mono ?_
  rintro e x2 ⟨rfl, hb2⟩
  have hc2 : Below x1.heap.size x1 x2 := hb2
  have hB2 : Below w.heap.size w x2 := hB1.trans (hc2.mono hB1.size)
  have zu2 := hB2.size
  replace RP := Lib.hid (RP.out.below hc2)
  clear RP_1_0 RP_1_1 RP_1_2 RP_1_3 RP_1_4 RP_1_5 RP_1_6 RP_1_7 RP_1_8 lRP_1 nRP_1 mRP_1
  clear hb2 hB1 zu1 hc1
  obtain ⟨RP_2_0, RP_2_1, RP_2_2, RP_2_3, RP_2_4, RP_2_5, RP_2_6, RP_2_7, RP_2_8⟩ := b9 RP.out
  have lRP_2 := RP.out.lt
  have nRP_2 : x2.heap.size ≠ w.heap.size := by omega
  have mRP_2 : w.heap.size ≠ x2.heap.size := by omega
  go_wp2
  go_ret
  exact ⟨rfl, hB2⟩
set_option maxRecDepth 100000 in
set_option maxHeartbeats 2000000 in
theorem rat_rules (T : List Ox) (r : Ru) (A : Option Addr) (n cap : Nat) (p E : Int) (w : World) (hn : Hid (n = T.length)) (hl : n ≤ 9223372036854775807) (hT : Hid (SlRows oxV 2 w A T)) (CA : Hid (A = none → n = 0 ∧ cap = 0)) (hF : Hid (fewB n = true)) (hE1 : Hid (ruE T r = E)) (hz : (E != 0) = true) (hz0 : (E == 0) = false) (HR : Hid (∀ (G : Option Addr) (c : Nat) (X : World), Hid (SlRows oxV 2 X G T) → Calls Try.prog 17 #[.agg #[.slice G n c, .int .i64 r.a, .int .i64 r.b, .int .i64 r.nc, .int .i64 r.dn, .int .i64 r.br, .int .i64 r.em, .int .i64 r.pa, .int .i64 r.sc], .int .i64 p] X fun e w' => e = .returned (.tuple #[.int .i64 0, .int .i64 E]) ∧ Below X.heap.size X w')) :
    Calls Try.prog 3 #[.agg #[.slice A n cap, .int .i64 r.a, .int .i64 r.b, .int .i64 r.nc, .int .i64 r.dn, .int .i64 r.br, .int .i64 r.em, .int .i64 r.pa, .int .i64 r.sc], .int .i64 p] w fun e w' => e = .returned (.bool true) ∧ Below w.heap.size w w' := by
  have n22 : n ≤ 22 := fewB_le hF.out
  go_enter Try.func3, Try.ntmps3
  go_wp2_with fail
  refine (awake_any _).mono ?_
  rintro e x1 ⟨rfl, hb1⟩
  have hc1 : Below w.heap.size w x1 := ((Below.refl _ _).alloc (by first | exact Nat.le_refl _ | (simp; done) | (simp; omega)) _).trans (hb1.mono (by first | exact Nat.le_refl _ | (simp; done) | (simp; omega)))
  have hB1 : Below w.heap.size w x1 := hc1
  have zu1 := hB1.size
  have RP : Hid (BlkF x1 w.heap.size (w.heap.size) [.slice A n cap, .int .i64 r.a, .int .i64 r.b, .int .i64 r.nc, .int .i64 r.dn, .int .i64 r.br, .int .i64 r.em, .int .i64 r.pa, .int .i64 r.sc]) := Lib.hid ((BlkF.made (B := w.heap.size) w [.slice A n cap, .int .i64 r.a, .int .i64 r.b, .int .i64 r.nc, .int .i64 r.dn, .int .i64 r.br, .int .i64 r.em, .int .i64 r.pa, .int .i64 r.sc] 26 (by first | exact Nat.le_refl _ | (simp; done) | (simp; omega))).below hb1)
  have zRP1 := RP.out.lt
  clear hb1
  obtain ⟨RP_1_0, RP_1_1, RP_1_2, RP_1_3, RP_1_4, RP_1_5, RP_1_6, RP_1_7, RP_1_8⟩ := b9 RP.out
  have lRP_1 := RP.out.lt
  have nRP_1 : x1.heap.size ≠ w.heap.size := by omega
  have mRP_1 : w.heap.size ≠ x1.heap.size := by omega
  go_wp2_with fail
  refine (few_is r A n cap true _ hl hF).mono ?_
  rintro e x2 ⟨rfl, hb2⟩
  have hc2 : Below x1.heap.size x1 x2 := hb2
  have hB2 : Below w.heap.size w x2 := hB1.trans (hc2.mono hB1.size)
  have zu2 := hB2.size
  replace RP := Lib.hid (RP.out.below hc2)
  clear RP_1_0 RP_1_1 RP_1_2 RP_1_3 RP_1_4 RP_1_5 RP_1_6 RP_1_7 RP_1_8 lRP_1 nRP_1 mRP_1
  clear hb2 hB1 zu1 hc1
  obtain ⟨RP_2_0, RP_2_1, RP_2_2, RP_2_3, RP_2_4, RP_2_5, RP_2_6, RP_2_7, RP_2_8⟩ := b9 RP.out
  have lRP_2 := RP.out.lt
  have nRP_2 : x2.heap.size ≠ w.heap.size := by omega
  have mRP_2 : w.heap.size ≠ x2.heap.size := by omega
  go_wp2_with fail
  refine (copyR_is T r A n cap _ hn (by omega) (Lib.hid (hT.out.below (by (repeat (first | (with_reducible refine Below.drew ?_) | (with_reducible refine below_drewN ?_ _) | (with_reducible refine Below.alloc ?_ (by first | omega | (simp; done) | (simp; omega) | (simp at *; omega)) _) | (with_reducible refine Below.setCell ?_ (by first | omega | (simp; done) | (simp; omega) | (simp at *; omega)) _) | (with_reducible exact Below.refl _ _) | (with_reducible assumption) | (with_reducible refine Below.trans ?_ (Below.mono (by assumption) (by first | omega | (simp; done) | (simp; omega) | (simp at *; omega))))))))) CA).mono ?_
  rintro e x3 ⟨G1, c1, rfl, hs, hb3⟩
  have hc3 : Below x2.heap.size x2 x3 := hb3
  have hB3 : Below w.heap.size w x3 := hB2.trans (hc3.mono hB2.size)
  have zu3 := hB3.size
  replace RP := Lib.hid (RP.out.below hc3)
  have HG1 := Lib.hid hs
  clear hs
  clear RP_2_0 RP_2_1 RP_2_2 RP_2_3 RP_2_4 RP_2_5 RP_2_6 RP_2_7 RP_2_8 lRP_2 nRP_2 mRP_2
  clear hb3 hB2 zu2 hc2
  obtain ⟨RP_3_0, RP_3_1, RP_3_2, RP_3_3, RP_3_4, RP_3_5, RP_3_6, RP_3_7, RP_3_8⟩ := b9 RP.out
  have lRP_3 := RP.out.lt
  have nRP_3 : x3.heap.size ≠ w.heap.size := by omega
  have mRP_3 : w.heap.size ≠ x3.heap.size := by omega
  go_wp2_with fail
  refine (HR.out G1 c1 _ HG1).mono ?_
  rintro e x4 ⟨rfl, hb4⟩
  have hc4 : Below x3.heap.size x3 x4 := hb4
  have hB4 : Below w.heap.size w x4 := hB3.trans (hc4.mono hB3.size)
  have zu4 := hB4.size
  replace HG1 := Lib.hid (HG1.out.below hc4)
  replace RP := Lib.hid (RP.out.below hc4)
  clear RP_3_0 RP_3_1 RP_3_2 RP_3_3 RP_3_4 RP_3_5 RP_3_6 RP_3_7 RP_3_8 lRP_3 nRP_3 mRP_3
  clear hb4 hB3 zu3 hc3
  obtain ⟨RP_4_0, RP_4_1, RP_4_2, RP_4_3, RP_4_4, RP_4_5, RP_4_6, RP_4_7, RP_4_8⟩ := b9 RP.out
  have lRP_4 := RP.out.lt
  have nRP_4 : x4.heap.size ≠ w.heap.size := by omega
  have mRP_4 : w.heap.size ≠ x4.heap.size := by omega
  clear HG1
  go_wp2_with fail
  refine (refCheckRules_any T r A n cap E _ hn hl (Lib.hid (hT.out.below hB4)) hE1).mono ?_
  rintro e x5 ⟨rfl, hb5⟩
  have hc5 : Below x4.heap.size x4 x5 := hb5
  have hB5 : Below w.heap.size w x5 := hB4.trans (hc5.mono hB4.size)
  have zu5 := hB5.size
  replace RP := Lib.hid (RP.out.below hc5)
  clear RP_4_0 RP_4_1 RP_4_2 RP_4_3 RP_4_4 RP_4_5 RP_4_6 RP_4_7 RP_4_8 lRP_4 nRP_4 mRP_4
  clear hb5 hB4 zu4 hc4
  obtain ⟨RP_5_0, RP_5_1, RP_5_2, RP_5_3, RP_5_4, RP_5_5, RP_5_6, RP_5_7, RP_5_8⟩ := b9 RP.out
  have lRP_5 := RP.out.lt
  have nRP_5 : x5.heap.size ≠ w.heap.size := by omega
  have mRP_5 : w.heap.size ≠ x5.heap.size := by omega
  go_wp2
  go_ret
  exact ⟨rfl, hB5⟩
set_option maxRecDepth 100000 in
set_option maxHeartbeats 2000000 in
theorem rat_bad (T : List Ox) (r : Ru) (A : Option Addr) (n cap : Nat) (p : Int) (w : World) (hn : Hid (n = T.length)) (hl : n ≤ 9223372036854775807) (hT : Hid (SlRows oxV 2 w A T)) (CA : Hid (A = none → n = 0 ∧ cap = 0)) (hF : Hid (fewB n = true)) (hE1 : Hid (ruE T r = 0)) (h2 : Hid (inB p 0 100000 = false)) (HR : Hid (∀ (G : Option Addr) (c : Nat) (X : World), Hid (SlRows oxV 2 X G T) → Calls Try.prog 17 #[.agg #[.slice G n c, .int .i64 r.a, .int .i64 r.b, .int .i64 r.nc, .int .i64 r.dn, .int .i64 r.br, .int .i64 r.em, .int .i64 r.pa, .int .i64 r.sc], .int .i64 p] X fun e w' => e = .returned (.tuple #[.int .i64 0, .int .i64 2]) ∧ Below X.heap.size X w')) :
    Calls Try.prog 3 #[.agg #[.slice A n cap, .int .i64 r.a, .int .i64 r.b, .int .i64 r.nc, .int .i64 r.dn, .int .i64 r.br, .int .i64 r.em, .int .i64 r.pa, .int .i64 r.sc], .int .i64 p] w fun e w' => e = .returned (.bool true) ∧ Below w.heap.size w w' := by
  have n22 : n ≤ 22 := fewB_le hF.out
  go_enter Try.func3, Try.ntmps3
  go_wp2_with fail
  refine (awake_any _).mono ?_
  rintro e x1 ⟨rfl, hb1⟩
  have hc1 : Below w.heap.size w x1 := ((Below.refl _ _).alloc (by first | exact Nat.le_refl _ | (simp; done) | (simp; omega)) _).trans (hb1.mono (by first | exact Nat.le_refl _ | (simp; done) | (simp; omega)))
  have hB1 : Below w.heap.size w x1 := hc1
  have zu1 := hB1.size
  have RP : Hid (BlkF x1 w.heap.size (w.heap.size) [.slice A n cap, .int .i64 r.a, .int .i64 r.b, .int .i64 r.nc, .int .i64 r.dn, .int .i64 r.br, .int .i64 r.em, .int .i64 r.pa, .int .i64 r.sc]) := Lib.hid ((BlkF.made (B := w.heap.size) w [.slice A n cap, .int .i64 r.a, .int .i64 r.b, .int .i64 r.nc, .int .i64 r.dn, .int .i64 r.br, .int .i64 r.em, .int .i64 r.pa, .int .i64 r.sc] 26 (by first | exact Nat.le_refl _ | (simp; done) | (simp; omega))).below hb1)
  have zRP1 := RP.out.lt
  clear hb1
  obtain ⟨RP_1_0, RP_1_1, RP_1_2, RP_1_3, RP_1_4, RP_1_5, RP_1_6, RP_1_7, RP_1_8⟩ := b9 RP.out
  have lRP_1 := RP.out.lt
  have nRP_1 : x1.heap.size ≠ w.heap.size := by omega
  have mRP_1 : w.heap.size ≠ x1.heap.size := by omega
  go_wp2_with fail
  refine (few_is r A n cap true _ hl hF).mono ?_
  rintro e x2 ⟨rfl, hb2⟩
  have hc2 : Below x1.heap.size x1 x2 := hb2
  have hB2 : Below w.heap.size w x2 := hB1.trans (hc2.mono hB1.size)
  have zu2 := hB2.size
  replace RP := Lib.hid (RP.out.below hc2)
  clear RP_1_0 RP_1_1 RP_1_2 RP_1_3 RP_1_4 RP_1_5 RP_1_6 RP_1_7 RP_1_8 lRP_1 nRP_1 mRP_1
  clear hb2 hB1 zu1 hc1
  obtain ⟨RP_2_0, RP_2_1, RP_2_2, RP_2_3, RP_2_4, RP_2_5, RP_2_6, RP_2_7, RP_2_8⟩ := b9 RP.out
  have lRP_2 := RP.out.lt
  have nRP_2 : x2.heap.size ≠ w.heap.size := by omega
  have mRP_2 : w.heap.size ≠ x2.heap.size := by omega
  go_wp2_with fail
  refine (copyR_is T r A n cap _ hn (by omega) (Lib.hid (hT.out.below (by (repeat (first | (with_reducible refine Below.drew ?_) | (with_reducible refine below_drewN ?_ _) | (with_reducible refine Below.alloc ?_ (by first | omega | (simp; done) | (simp; omega) | (simp at *; omega)) _) | (with_reducible refine Below.setCell ?_ (by first | omega | (simp; done) | (simp; omega) | (simp at *; omega)) _) | (with_reducible exact Below.refl _ _) | (with_reducible assumption) | (with_reducible refine Below.trans ?_ (Below.mono (by assumption) (by first | omega | (simp; done) | (simp; omega) | (simp at *; omega))))))))) CA).mono ?_
  rintro e x3 ⟨G1, c1, rfl, hs, hb3⟩
  have hc3 : Below x2.heap.size x2 x3 := hb3
  have hB3 : Below w.heap.size w x3 := hB2.trans (hc3.mono hB2.size)
  have zu3 := hB3.size
  replace RP := Lib.hid (RP.out.below hc3)
  have HG1 := Lib.hid hs
  clear hs
  clear RP_2_0 RP_2_1 RP_2_2 RP_2_3 RP_2_4 RP_2_5 RP_2_6 RP_2_7 RP_2_8 lRP_2 nRP_2 mRP_2
  clear hb3 hB2 zu2 hc2
  obtain ⟨RP_3_0, RP_3_1, RP_3_2, RP_3_3, RP_3_4, RP_3_5, RP_3_6, RP_3_7, RP_3_8⟩ := b9 RP.out
  have lRP_3 := RP.out.lt
  have nRP_3 : x3.heap.size ≠ w.heap.size := by omega
  have mRP_3 : w.heap.size ≠ x3.heap.size := by omega
  go_wp2_with fail
  refine (HR.out G1 c1 _ HG1).mono ?_
  rintro e x4 ⟨rfl, hb4⟩
  have hc4 : Below x3.heap.size x3 x4 := hb4
  have hB4 : Below w.heap.size w x4 := hB3.trans (hc4.mono hB3.size)
  have zu4 := hB4.size
  replace HG1 := Lib.hid (HG1.out.below hc4)
  replace RP := Lib.hid (RP.out.below hc4)
  clear RP_3_0 RP_3_1 RP_3_2 RP_3_3 RP_3_4 RP_3_5 RP_3_6 RP_3_7 RP_3_8 lRP_3 nRP_3 mRP_3
  clear hb4 hB3 zu3 hc3
  obtain ⟨RP_4_0, RP_4_1, RP_4_2, RP_4_3, RP_4_4, RP_4_5, RP_4_6, RP_4_7, RP_4_8⟩ := b9 RP.out
  have lRP_4 := RP.out.lt
  have nRP_4 : x4.heap.size ≠ w.heap.size := by omega
  have mRP_4 : w.heap.size ≠ x4.heap.size := by omega
  clear HG1
  go_wp2_with fail
  refine (refCheckRules_any T r A n cap 0 _ hn hl (Lib.hid (hT.out.below hB4)) hE1).mono ?_
  rintro e x5 ⟨rfl, hb5⟩
  have hc5 : Below x4.heap.size x4 x5 := hb5
  have hB5 : Below w.heap.size w x5 := hB4.trans (hc5.mono hB4.size)
  have zu5 := hB5.size
  replace RP := Lib.hid (RP.out.below hc5)
  clear RP_4_0 RP_4_1 RP_4_2 RP_4_3 RP_4_4 RP_4_5 RP_4_6 RP_4_7 RP_4_8 lRP_4 nRP_4 mRP_4
  clear hb5 hB4 zu4 hc4
  obtain ⟨RP_5_0, RP_5_1, RP_5_2, RP_5_3, RP_5_4, RP_5_5, RP_5_6, RP_5_7, RP_5_8⟩ := b9 RP.out
  have lRP_5 := RP.out.lt
  have nRP_5 : x5.heap.size ≠ w.heap.size := by omega
  have mRP_5 : w.heap.size ≠ x5.heap.size := by omega
  go_wp2_with ((go_at_call 20; ((with_reducible refine (bW_r _ _ _ false _ h2).mono ?_)); rintro e w' ⟨rfl, rfl⟩))
  go_ret
  exact ⟨rfl, hB5⟩
set_option maxRecDepth 100000 in
set_option maxHeartbeats 2000000 in
theorem rat_good (T : List Ox) (r : Ru) (A : Option Addr) (n cap : Nat) (p v : Int) (w : World) (hn : Hid (n = T.length)) (hl : n ≤ 9223372036854775807) (hT : Hid (SlRows oxV 2 w A T)) (CA : Hid (A = none → n = 0 ∧ cap = 0)) (hF : Hid (fewB n = true)) (hE1 : Hid (ruE T r = 0)) (h2 : Hid (inB p 0 100000 = true)) (p0 : 0 ≤ p) (p1 : p ≤ 100000) (hv : Hid (rateV T (1000 * p) = v)) (HR : Hid (∀ (G : Option Addr) (c : Nat) (X : World), Hid (SlRows oxV 2 X G T) → Calls Try.prog 17 #[.agg #[.slice G n c, .int .i64 r.a, .int .i64 r.b, .int .i64 r.nc, .int .i64 r.dn, .int .i64 r.br, .int .i64 r.em, .int .i64 r.pa, .int .i64 r.sc], .int .i64 p] X fun e w' => e = .returned (.tuple #[.int .i64 v, .int .i64 0]) ∧ Below X.heap.size X w')) :
    Calls Try.prog 3 #[.agg #[.slice A n cap, .int .i64 r.a, .int .i64 r.b, .int .i64 r.nc, .int .i64 r.dn, .int .i64 r.br, .int .i64 r.em, .int .i64 r.pa, .int .i64 r.sc], .int .i64 p] w fun e w' => e = .returned (.bool true) ∧ Below w.heap.size w w' := by
  have n22 : n ≤ 22 := fewB_le hF.out
  go_enter Try.func3, Try.ntmps3
  go_wp2_with fail
  refine (awake_any _).mono ?_
  rintro e x1 ⟨rfl, hb1⟩
  have hc1 : Below w.heap.size w x1 := ((Below.refl _ _).alloc (by first | exact Nat.le_refl _ | (simp; done) | (simp; omega)) _).trans (hb1.mono (by first | exact Nat.le_refl _ | (simp; done) | (simp; omega)))
  have hB1 : Below w.heap.size w x1 := hc1
  have zu1 := hB1.size
  have RP : Hid (BlkF x1 w.heap.size (w.heap.size) [.slice A n cap, .int .i64 r.a, .int .i64 r.b, .int .i64 r.nc, .int .i64 r.dn, .int .i64 r.br, .int .i64 r.em, .int .i64 r.pa, .int .i64 r.sc]) := Lib.hid ((BlkF.made (B := w.heap.size) w [.slice A n cap, .int .i64 r.a, .int .i64 r.b, .int .i64 r.nc, .int .i64 r.dn, .int .i64 r.br, .int .i64 r.em, .int .i64 r.pa, .int .i64 r.sc] 26 (by first | exact Nat.le_refl _ | (simp; done) | (simp; omega))).below hb1)
  have zRP1 := RP.out.lt
  clear hb1
  obtain ⟨RP_1_0, RP_1_1, RP_1_2, RP_1_3, RP_1_4, RP_1_5, RP_1_6, RP_1_7, RP_1_8⟩ := b9 RP.out
  have lRP_1 := RP.out.lt
  have nRP_1 : x1.heap.size ≠ w.heap.size := by omega
  have mRP_1 : w.heap.size ≠ x1.heap.size := by omega
  go_wp2_with fail
  refine (few_is r A n cap true _ hl hF).mono ?_
  rintro e x2 ⟨rfl, hb2⟩
  have hc2 : Below x1.heap.size x1 x2 := hb2
  have hB2 : Below w.heap.size w x2 := hB1.trans (hc2.mono hB1.size)
  have zu2 := hB2.size
  replace RP := Lib.hid (RP.out.below hc2)
  clear RP_1_0 RP_1_1 RP_1_2 RP_1_3 RP_1_4 RP_1_5 RP_1_6 RP_1_7 RP_1_8 lRP_1 nRP_1 mRP_1
  clear hb2 hB1 zu1 hc1
  obtain ⟨RP_2_0, RP_2_1, RP_2_2, RP_2_3, RP_2_4, RP_2_5, RP_2_6, RP_2_7, RP_2_8⟩ := b9 RP.out
  have lRP_2 := RP.out.lt
  have nRP_2 : x2.heap.size ≠ w.heap.size := by omega
  have mRP_2 : w.heap.size ≠ x2.heap.size := by omega
  go_wp2_with fail
  refine (copyR_is T r A n cap _ hn (by omega) (Lib.hid (hT.out.below (by (repeat (first | (with_reducible refine Below.drew ?_) | (with_reducible refine below_drewN ?_ _) | (with_reducible refine Below.alloc ?_ (by first | omega | (simp; done) | (simp; omega) | (simp at *; omega)) _) | (with_reducible refine Below.setCell ?_ (by first | omega | (simp; done) | (simp; omega) | (simp at *; omega)) _) | (with_reducible exact Below.refl _ _) | (with_reducible assumption) | (with_reducible refine Below.trans ?_ (Below.mono (by assumption) (by first | omega | (simp; done) | (simp; omega) | (simp at *; omega))))))))) CA).mono ?_
  rintro e x3 ⟨G1, c1, rfl, hs, hb3⟩
  have hc3 : Below x2.heap.size x2 x3 := hb3
  have hB3 : Below w.heap.size w x3 := hB2.trans (hc3.mono hB2.size)
  have zu3 := hB3.size
  replace RP := Lib.hid (RP.out.below hc3)
  have HG1 := Lib.hid hs
  clear hs
  clear RP_2_0 RP_2_1 RP_2_2 RP_2_3 RP_2_4 RP_2_5 RP_2_6 RP_2_7 RP_2_8 lRP_2 nRP_2 mRP_2
  clear hb3 hB2 zu2 hc2
  obtain ⟨RP_3_0, RP_3_1, RP_3_2, RP_3_3, RP_3_4, RP_3_5, RP_3_6, RP_3_7, RP_3_8⟩ := b9 RP.out
  have lRP_3 := RP.out.lt
  have nRP_3 : x3.heap.size ≠ w.heap.size := by omega
  have mRP_3 : w.heap.size ≠ x3.heap.size := by omega
  go_wp2_with fail
  refine (HR.out G1 c1 _ HG1).mono ?_
  rintro e x4 ⟨rfl, hb4⟩
  have hc4 : Below x3.heap.size x3 x4 := hb4
  have hB4 : Below w.heap.size w x4 := hB3.trans (hc4.mono hB3.size)
  have zu4 := hB4.size
  replace HG1 := Lib.hid (HG1.out.below hc4)
  replace RP := Lib.hid (RP.out.below hc4)
  clear RP_3_0 RP_3_1 RP_3_2 RP_3_3 RP_3_4 RP_3_5 RP_3_6 RP_3_7 RP_3_8 lRP_3 nRP_3 mRP_3
  clear hb4 hB3 zu3 hc3
  obtain ⟨RP_4_0, RP_4_1, RP_4_2, RP_4_3, RP_4_4, RP_4_5, RP_4_6, RP_4_7, RP_4_8⟩ := b9 RP.out
  have lRP_4 := RP.out.lt
  have nRP_4 : x4.heap.size ≠ w.heap.size := by omega
  have mRP_4 : w.heap.size ≠ x4.heap.size := by omega
  clear HG1
  go_wp2_with fail
  refine (refCheckRules_any T r A n cap 0 _ hn hl (Lib.hid (hT.out.below hB4)) hE1).mono ?_
  rintro e x5 ⟨rfl, hb5⟩
  have hc5 : Below x4.heap.size x4 x5 := hb5
  have hB5 : Below w.heap.size w x5 := hB4.trans (hc5.mono hB4.size)
  have zu5 := hB5.size
  replace RP := Lib.hid (RP.out.below hc5)
  clear RP_4_0 RP_4_1 RP_4_2 RP_4_3 RP_4_4 RP_4_5 RP_4_6 RP_4_7 RP_4_8 lRP_4 nRP_4 mRP_4
  clear hb5 hB4 zu4 hc4
  obtain ⟨RP_5_0, RP_5_1, RP_5_2, RP_5_3, RP_5_4, RP_5_5, RP_5_6, RP_5_7, RP_5_8⟩ := b9 RP.out
  have lRP_5 := RP.out.lt
  have nRP_5 : x5.heap.size ≠ w.heap.size := by omega
  have mRP_5 : w.heap.size ≠ x5.heap.size := by omega
  go_wp2_with ((go_at_call 20; ((with_reducible refine (bW_r _ _ _ true _ h2).mono ?_)); rintro e w' ⟨rfl, rfl⟩))
  go_wp2_with fail
  refine (refRateAt_is T r A n cap p v _ hn (Lib.hid (hT.out.below hB5)) (Lib.hid (ru_ok hE1.out).ox) p0 p1 hv).mono ?_
  rintro e x6 ⟨rfl, hb6⟩
  have hc6 : Below x5.heap.size x5 x6 := hb6
  have hB6 : Below w.heap.size w x6 := hB5.trans (hc6.mono hB5.size)
  have zu6 := hB6.size
  replace RP := Lib.hid (RP.out.below hc6)
  clear RP_5_0 RP_5_1 RP_5_2 RP_5_3 RP_5_4 RP_5_5 RP_5_6 RP_5_7 RP_5_8 lRP_5 nRP_5 mRP_5
  clear hb6 hB5 zu5 hc5
  obtain ⟨RP_6_0, RP_6_1, RP_6_2, RP_6_3, RP_6_4, RP_6_5, RP_6_6, RP_6_7, RP_6_8⟩ := b9 RP.out
  have lRP_6 := RP.out.lt
  have nRP_6 : x6.heap.size ≠ w.heap.size := by omega
  have mRP_6 : w.heap.size ≠ x6.heap.size := by omega
  go_wp2
  go_ret
  exact ⟨rfl, hB6⟩
theorem exposureRates_r (T : List Ox) (r : Ru) (A : Option Addr) (n cap : Nat) (p : Int) (w : World) (hn : Hid (n = T.length)) (hl : n ≤ 9223372036854775807) (hT : Hid (SlRows oxV 2 w A T)) (CA : Hid (A = none → n = 0 ∧ cap = 0)) :
    Calls Try.prog 3 #[.agg #[.slice A n cap, .int .i64 r.a, .int .i64 r.b, .int .i64 r.nc, .int .i64 r.dn, .int .i64 r.br, .int .i64 r.em, .int .i64 r.pa, .int .i64 r.sc], .int .i64 p] w fun e w' => e = .returned (.bool true) ∧ Below w.heap.size w w' := by
  cases hF : fewB n with
  | false => exact rat_few T r A n cap p w hn hl hT CA (Lib.hid hF)
  | true =>
    have H : ∀ (E : Int), firE [ruE T r, rngE p 0 100000] = E → ∀ (G : Option Addr) (c : Nat) (X : World), Hid (SlRows oxV 2 X G T) → Calls Try.prog 17 #[.agg #[.slice G n c, .int .i64 r.a, .int .i64 r.b, .int .i64 r.nc, .int .i64 r.dn, .int .i64 r.br, .int .i64 r.em, .int .i64 r.pa, .int .i64 r.sc], .int .i64 p] X fun e w' => (¬ E = 0 ∧ e = .returned (.tuple #[.int .i64 0, .int .i64 E]) ∧ Below X.heap.size X w') ∨ (E = 0 ∧ e = .returned (.tuple #[.int .i64 (rateV T (1000 * p)), .int .i64 0]) ∧ Below X.heap.size X w') := fun E hE G c X hX => RateAt_any T r G n c p _ _ E X hn hl hX (Lib.hid rfl) (Lib.hid rfl) (Lib.hid hE)
    have HB : ∀ (E : Int), firE [ruE T r, rngE p 0 100000] = E → ¬ E = 0 → ∀ (G : Option Addr) (c : Nat) (X : World), Hid (SlRows oxV 2 X G T) → Calls Try.prog 17 #[.agg #[.slice G n c, .int .i64 r.a, .int .i64 r.b, .int .i64 r.nc, .int .i64 r.dn, .int .i64 r.br, .int .i64 r.em, .int .i64 r.pa, .int .i64 r.sc], .int .i64 p] X fun e w' => e = .returned (.tuple #[.int .i64 0, .int .i64 E]) ∧ Below X.heap.size X w' := fun E hE h0 G c X hX => (H E hE G c X hX).mono fun e w' h => by
      rcases h with ⟨_, h⟩ | ⟨h, _⟩
      · exact h
      · exact absurd h h0
    by_cases h1 : ruE T r = 0
    · cases h2 : inB p 0 100000 with
      | false =>
        have hE : firE [ruE T r, rngE p 0 100000] = 2 := by rw [h1, rngE_f h2]; rfl
        exact rat_bad T r A n cap p w hn hl hT CA (Lib.hid hF) (Lib.hid h1) (Lib.hid h2) (Lib.hid (HB 2 hE (by decide)))
      | true =>
        have y2 := inB_iff.1 h2
        have hE : firE [ruE T r, rngE p 0 100000] = 0 := by rw [h1, rngE_t h2]; rfl
        exact rat_good T r A n cap p _ w hn hl hT CA (Lib.hid hF) (Lib.hid h1) (Lib.hid h2) y2.1 y2.2 (Lib.hid rfl) (Lib.hid fun G c X hX => (H 0 hE G c X hX).mono fun e w' h => by
          rcases h with ⟨h, _⟩ | ⟨_, h⟩
          · exact absurd rfl h
          · exact h)
    · have hE : firE [ruE T r, rngE p 0 100000] = ruE T r := by rw [firE, if_neg h1]
      exact rat_rules T r A n cap p _ w hn hl hT CA (Lib.hid hF) (Lib.hid rfl) (by simpa using h1) (by simpa using h1) (Lib.hid (HB _ hE h1))
theorem nilCap {α : Type} {f : α → List Value} {k : Nat} {w : World} {A : Option Addr} {L : List α} {c : Nat} (h : SlRows f k w A L) (hn : A = none → c = 0) : A = none → L.length = 0 ∧ c = 0 := fun e => by
  rcases h with h | ⟨b, o, h, _⟩
  · exact ⟨by rw [h]; rfl, hn e⟩
  · rw [e] at h; cases h
theorem exposureRates_any (T : List Ox) (A : Option Addr) (cap : Nat) (ra rb rnc rdn rbr rem rpa rsc : Int) (p : Int) (w : World) (hTl : T.length ≤ 9223372036854775807) (hTn : A = none → cap = 0) (hTs : SlRows oxV 2 w A T) :
    Calls Try.prog 3 #[.agg #[.slice A T.length cap, .int .i64 ra, .int .i64 rb, .int .i64 rnc, .int .i64 rdn, .int .i64 rbr, .int .i64 rem, .int .i64 rpa, .int .i64 rsc], .int .i64 p] w fun e w' => e = .returned (.bool true) ∧ Below w.heap.size w w' := by
  exact exposureRates_r T ⟨ra, rb, rnc, rdn, rbr, rem, rpa, rsc⟩ A T.length cap p w (Lib.hid rfl) hTl (Lib.hid hTs) (Lib.hid (nilCap hTs hTn))
end Go.Proofs.Ytijdphlejokijaa
