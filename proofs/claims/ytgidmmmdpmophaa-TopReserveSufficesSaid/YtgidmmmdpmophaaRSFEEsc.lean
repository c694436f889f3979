import Derived.Test.YtgidmmmdpmophaaRSFERfC
import Derived.Test.YtgidmmmdpmophaaRSFEAwk1
import Derived.Outline
namespace Go.Proofs.Ytgidmmmdpmophaa
open Go.ChangeShapes Go.WideShapes Go.ChangeAt Go.RowKit
set_option linter.unusedVariables false
set_option linter.unusedSimpArgs false
attribute [local go_sem ↓] Go.wp_at_zero Go.wp_at_succ
theorem cFirst3E (x y z E : Int) (b : Nat) (w : World) {B : Nat} (hE : Hid (firE [x, y, z] = E)) (h : BlkF w B b [.int .i64 x, .int .i64 y, .int .i64 z]) : Calls Try.prog 27 #[.slice (some ⟨b, 0, none⟩) 3 3] w fun e w' => e = .returned (.int .i64 E) ∧ Below w.heap.size w w' := by
  rw [← hE.out]
  exact cFirstB [x, y, z] b 0 3 w rfl (by simp) (by simp) (blk_ints (l := [x, y, z]) h)
theorem cSurfE (n E : Int) (w : World) (h : Hid (rngE n 400 1100 = E)) : Calls Try.prog 41 #[.int .i64 n] w fun e w' => e = .returned (.int .i64 E) ∧ Below w.heap.size w w' := by
  go_enter Try.func41, Try.ntmps41
  go_wp2_with fail
  refine (cRange_is n 400 1100 E _ h).mono ?_
  rintro e w' ⟨rfl, rfl⟩
  go_wp2
  go_ret
  exact ⟨rfl, Below.refl _ _⟩
set_option maxHeartbeats 1000000 in
theorem EscapeFrom_any (T : List Ox) (r : Ru) (A : Option Addr) (n cap : Nat) (su dep E1 E2 E3 E : Int) (w : World) (hn : Hid (n = T.length)) (hl : n ≤ 9223372036854775807) (hT : Hid (SlRows oxV 2 w A T)) (hE1 : Hid (ruE T r = E1)) (hE2 : Hid (rngE su 400 1100 = E2)) (hE3 : Hid (rngE dep 0 30000 = E3)) (hE : Hid (firE [E1, E2, E3] = E)) :
    Calls Try.prog 17 #[.agg #[.slice A n cap, .int .i64 r.a, .int .i64 r.b, .int .i64 r.nc, .int .i64 r.dn, .int .i64 r.br, .int .i64 r.em, .int .i64 r.pa, .int .i64 r.sc], .int .i64 su, .int .i64 dep] w fun e w' => (¬ E = 0 ∧ e = .returned (.tuple #[.int .i64 0, .int .i64 E]) ∧ Below w.heap.size w w') ∨ (E = 0 ∧ e = .returned (.tuple #[.int .i64 (escV r su dep), .int .i64 0]) ∧ Below w.heap.size w w') := by
  go_enter Try.func17, Try.ntmps17
  go_wp2_with fail
  refine (CheckRules_any T r A n cap E1 _ hn hl (Lib.hid (hT.out.below (by (repeat (first | (with_reducible refine Below.drew ?_) | (with_reducible refine below_drewN ?_ _) | (with_reducible refine Below.alloc ?_ (by first | omega | (simp; done) | (simp; omega) | (simp at *; omega)) _) | (with_reducible refine Below.setCell ?_ (by first | omega | (simp; done) | (simp; omega) | (simp at *; omega)) _) | (with_reducible exact Below.refl _ _) | (with_reducible assumption) | (with_reducible refine Below.trans ?_ (Below.mono (by assumption) (by first | omega | (simp; done) | (simp; omega) | (simp at *; omega))))))))) hE1).mono ?_
  rintro e x1 ⟨rfl, hb1⟩
  have hc1 : Below w.heap.size w x1 := ((Below.refl _ _).alloc (by first | exact Nat.le_refl _ | (simp; done) | (simp; omega)) _).trans (hb1.mono (by first | exact Nat.le_refl _ | (simp; done) | (simp; omega)))
  have hB1 : Below w.heap.size w x1 := hc1
  have zu1 := hB1.size
  have RP : Hid (BlkF x1 w.heap.size (w.heap.size) [.slice A n cap, .int .i64 r.a, .int .i64 r.b, .int .i64 r.nc, .int .i64 r.dn, .int .i64 r.br, .int .i64 r.em, .int .i64 r.pa, .int .i64 r.sc]) := Lib.hid ((BlkF.made (B := w.heap.size) w [.slice A n cap, .int .i64 r.a, .int .i64 r.b, .int .i64 r.nc, .int .i64 r.dn, .int .i64 r.br, .int .i64 r.em, .int .i64 r.pa, .int .i64 r.sc] 30 (by first | exact Nat.le_refl _ | (simp; done) | (simp; omega))).below hb1)
  have zRP1 := RP.out.lt
  clear hb1
  obtain ⟨RP_1_0, RP_1_1, RP_1_2, RP_1_3, RP_1_4, RP_1_5, RP_1_6, RP_1_7, RP_1_8⟩ := b9 RP.out
  have lRP_1 := RP.out.lt
  have nRP_1 : x1.heap.size ≠ w.heap.size := by omega
  have mRP_1 : w.heap.size ≠ x1.heap.size := by omega
  go_wp2_with fail
  refine (cSurfE su E2 _ hE2).mono ?_
  rintro e x2 ⟨rfl, hb2⟩
  have hc2 : Below x1.heap.size x1 x2 := hb2
  have hB2 : Below w.heap.size w x2 := hB1.trans (hc2.mono hB1.size)
  have zu2 := hB2.size
  replace RP := Lib.hid (RP.out.below hc2)
  clear RP_1_0 RP_1_1 RP_1_2 RP_1_3 RP_1_4 RP_1_5 RP_1_6 RP_1_7 RP_1_8 lRP_1 nRP_1 mRP_1
  clear hb2 hB1 zu1 hc1
  obtain ⟨RP_2_0, RP_2_1, RP_2_2, RP_2_3, RP_2_4, RP_2_5, RP_2_6, RP_2_7, RP_2_8⟩ := b9 RP.out
  have lRP_2 := RP.out.lt
  have nRP_2 : x2.heap.size ≠ w.heap.size := by omega
  have mRP_2 : w.heap.size ≠ x2.heap.size := by omega
  go_wp2_with fail
  refine (cRangeB dep 0 30000 E3 _ hE3).mono ?_
  rintro e x3 ⟨rfl, hb3⟩
  have hc3 : Below x2.heap.size x2 x3 := hb3
  have hB3 : Below w.heap.size w x3 := hB2.trans (hc3.mono hB2.size)
  have zu3 := hB3.size
  replace RP := Lib.hid (RP.out.below hc3)
  clear RP_2_0 RP_2_1 RP_2_2 RP_2_3 RP_2_4 RP_2_5 RP_2_6 RP_2_7 RP_2_8 lRP_2 nRP_2 mRP_2
  clear hb3 hB2 zu2 hc2
  obtain ⟨RP_3_0, RP_3_1, RP_3_2, RP_3_3, RP_3_4, RP_3_5, RP_3_6, RP_3_7, RP_3_8⟩ := b9 RP.out
  have lRP_3 := RP.out.lt
  have nRP_3 : x3.heap.size ≠ w.heap.size := by omega
  have mRP_3 : w.heap.size ≠ x3.heap.size := by omega
  go_wp2_with fail
  refine (cFirst3E E1 E2 E3 E x3.heap.size _ hE (BlkF.made (B := x3.heap.size) x3 [.int .i64 E1, .int .i64 E2, .int .i64 E3] 38 (Nat.le_refl _))).mono ?_
  rintro e x4 ⟨rfl, hb4⟩
  have hc4 : Below x3.heap.size x3 x4 := ((Below.refl _ _).alloc (by first | exact Nat.le_refl _ | (simp; done) | (simp; omega)) _).trans (hb4.mono (by first | exact Nat.le_refl _ | (simp; done) | (simp; omega)))
  have hB4 : Below w.heap.size w x4 := hB3.trans (hc4.mono hB3.size)
  have zu4 := hB4.size
  replace RP := Lib.hid (RP.out.below hc4)
  have EB : Hid (BlkF x4 w.heap.size (x3.heap.size) [.int .i64 E1, .int .i64 E2, .int .i64 E3]) := Lib.hid ((BlkF.made (B := w.heap.size) x3 [.int .i64 E1, .int .i64 E2, .int .i64 E3] 38 (by first | exact Nat.le_refl _ | exact hB3.size | (simp; done) | (simp; omega))).below hb4)
  have zEB4 := EB.out.lt
  clear RP_3_0 RP_3_1 RP_3_2 RP_3_3 RP_3_4 RP_3_5 RP_3_6 RP_3_7 RP_3_8 lRP_3 nRP_3 mRP_3
  clear hb4 hB3 zu3 hc3
  obtain ⟨RP_4_0, RP_4_1, RP_4_2, RP_4_3, RP_4_4, RP_4_5, RP_4_6, RP_4_7, RP_4_8⟩ := b9 RP.out
  have lRP_4 := RP.out.lt
  have nRP_4 : x4.heap.size ≠ w.heap.size := by omega
  have mRP_4 : w.heap.size ≠ x4.heap.size := by omega
  obtain ⟨EB_4_0, EB_4_1, EB_4_2⟩ := b3 EB.out
  have lEB_4 := EB.out.lt
  have nEB_4 : x4.heap.size ≠ x3.heap.size := by omega
  have mEB_4 : x3.heap.size ≠ x4.heap.size := by omega
  by_cases hEE : ¬ E = 0
  · have hE3 : (E != 0) = true := by simpa using hEE
    go_wp2
    go_ret2
    exact Or.inl ⟨hEE, rfl, hB4⟩
  obtain rfl : E = 0 := by omega
  obtain ⟨rfl, rfl, rfl⟩ : E1 = 0 ∧ E2 = 0 ∧ E3 = 0 := by
    have := firE_all hE.out
    exact ⟨this _ (by simp), this _ (by simp), this _ (by simp)⟩
  have y2 := rngE_bd hE2.out
  have y3 := rngE_bd hE3.out
  go_wp2_with fail
  refine (escape_is T r A n cap su dep (escV r su dep) _ (Lib.hid (ru_ok hE1.out)) y2.1 y2.2 y3.1 y3.2 (Lib.hid rfl)).mono ?_
  rintro e x5 ⟨rfl, hb5⟩
  have hc5 : Below x4.heap.size x4 x5 := hb5
  have hB5 : Below w.heap.size w x5 := hB4.trans (hc5.mono hB4.size)
  have zu5 := hB5.size
  replace RP := Lib.hid (RP.out.below hc5)
  replace EB := Lib.hid (EB.out.below hc5)
  clear RP_4_0 RP_4_1 RP_4_2 RP_4_3 RP_4_4 RP_4_5 RP_4_6 RP_4_7 RP_4_8 lRP_4 nRP_4 mRP_4 EB_4_0 EB_4_1 EB_4_2 lEB_4 nEB_4 mEB_4
  clear hb5 hB4 zu4 hc4
  obtain ⟨RP_5_0, RP_5_1, RP_5_2, RP_5_3, RP_5_4, RP_5_5, RP_5_6, RP_5_7, RP_5_8⟩ := b9 RP.out
  have lRP_5 := RP.out.lt
  have nRP_5 : x5.heap.size ≠ w.heap.size := by omega
  have mRP_5 : w.heap.size ≠ x5.heap.size := by omega
  obtain ⟨EB_5_0, EB_5_1, EB_5_2⟩ := b3 EB.out
  have lEB_5 := EB.out.lt
  have nEB_5 : x5.heap.size ≠ x3.heap.size := by omega
  have mEB_5 : x3.heap.size ≠ x5.heap.size := by omega
  go_wp2
  go_ret2
  first | exact Or.inr ⟨rfl, rfl, hB5⟩ | exact hB5 | exact ⟨rfl, hB5⟩
end Go.Proofs.Ytgidmmmdpmophaa
