import Derived.Test.YtijdphlejokijaaGreatESUESvc
import Derived.Test.YtijdphlejokijaaGreatESUECpP
import Derived.Test.YtijdphlejokijaaGreatESUTSet
import Derived.Test.YtijdphlejokijaaGreatESUEAwk
import Derived.Outline
namespace Go.Proofs.YtijdphlejokijaaGreat
open Go.ChangeShapes Go.WideShapes Go.ChangeAt Go.RowKit
set_option linter.unusedVariables false
set_option linter.unusedSimpArgs false
attribute [local go_sem ↓] Go.wp_at_zero Go.wp_at_succ
theorem frs_ex (P : Nat → Bool) : ∀ n, ∃ k, k ≤ n ∧ (∀ j, j < k → P j = false) ∧ (k < n → P k = true)
  | 0 => ⟨0, by omega, fun j h => by omega, fun h => by omega⟩
  | n + 1 => by
    obtain ⟨k, h1, h2, h3⟩ := frs_ex P n
    rcases Nat.lt_or_ge k n with h | h
    · exact ⟨k, by omega, h2, fun _ => h3 h⟩
    · obtain rfl : k = n := by omega
      cases e : P k with
      | true => exact ⟨k, by omega, h2, fun _ => e⟩
      | false => exact ⟨k + 1, by omega, fun j hj => by
          rcases Nat.lt_or_ge j k with h | h
          · exact h2 j h
          · obtain rfl : j = k := by omega
            exact e, fun h => by omega⟩
set_option maxRecDepth 100000 in
set_option maxHeartbeats 8000000 in
theorem sv_brief (nm : ByteArray) (s : Int) (G : List Ga) (D : List Le) (A B : Option Addr) (gn gc dn dc : Nat) (T : List Ox) (r : Ru) (AT : Option Addr) (tn tc : Nat) (L : List Int) (C : Option Addr) (an cc : Nat) (sb : Bool) (N : Nat) (E0 : Int) (w : World) (hz : nm.size ≤ 9223372036854775807) (hgn : Hid (gn = G.length)) (hgl : gn ≤ 9223372036854775807) (hdn : Hid (dn = D.length)) (hdl : dn ≤ 9223372036854775807) (hG : Hid (SlRows gaV 2 w A G)) (hD : Hid (SlRows leV 3 w B D)) (CG : Hid (A = none → gn = 0 ∧ gc = 0)) (CD : Hid (B = none → dn = 0 ∧ dc = 0)) (htn : Hid (tn = T.length)) (htl : tn ≤ 9223372036854775807) (hT : Hid (SlRows oxV 2 w AT T)) (CT : Hid (AT = none → tn = 0 ∧ tc = 0)) (han : Hid (an = L.length)) (hal : an ≤ 9223372036854775807) (hC : Hid (SlRows inV 1 w C L)) (CA : Hid (C = none → an = 0 ∧ cc = 0)) (hS : Hid (shortB nm.size dn gn = sb)) (hE0 : Hid (plnP nm s G D = (N, E0))) (hb : Hid (briefV sb E0 (secT D dn) = false)) :
    Calls Tryz.prog 4 #[.agg #[.string nm, .int .i64 s, .slice A gn gc, .slice B dn dc], .agg #[.slice AT tn tc, .int .i64 r.a, .int .i64 r.b, .int .i64 r.nc, .int .i64 r.dn, .int .i64 r.br, .int .i64 r.em, .int .i64 r.pa, .int .i64 r.sc], .slice C an cc] w fun e w' => e = .returned (.bool true) ∧ Below w.heap.size w w' := by
  go_enter Tryz.func4, Tryz.ntmps4
  go_wp2_with fail
  refine (awake_any _).mono ?_
  rintro e x1 ⟨rfl, hb1⟩
  have hc1 : Below w.heap.size w x1 := (((Below.refl _ _).alloc (by first | exact Nat.le_refl _ | (simp; done) | (simp; omega)) _).alloc (by first | exact Nat.le_refl _ | (simp; done) | (simp; omega)) _).trans (hb1.mono (by first | exact Nat.le_refl _ | (simp; done) | (simp; omega)))
  have hB1 : Below w.heap.size w x1 := hc1
  have zu1 := hB1.size
  have PB : Hid (BlkF x1 w.heap.size (w.heap.size) [.string nm, .int .i64 s, .slice A gn gc, .slice B dn dc]) := Lib.hid (((BlkF.made (B := w.heap.size) w [.string nm, .int .i64 s, .slice A gn gc, .slice B dn dc] 25 (by first | exact Nat.le_refl _ | (simp; done) | (simp; omega))).below ((Below.refl _ _).alloc (Nat.le_refl _) _)).below hb1)
  have zPB1 := PB.out.lt
  have RB : Hid (BlkF x1 w.heap.size (w.heap.size + 1) [.slice AT tn tc, .int .i64 r.a, .int .i64 r.b, .int .i64 r.nc, .int .i64 r.dn, .int .i64 r.br, .int .i64 r.em, .int .i64 r.pa, .int .i64 r.sc]) := Lib.hid (by have := (BlkF.made (B := w.heap.size) (w.alloc (.cells #[.string nm, .int .i64 s, .slice A gn gc, .slice B dn dc] 25)) [.slice AT tn tc, .int .i64 r.a, .int .i64 r.b, .int .i64 r.nc, .int .i64 r.dn, .int .i64 r.br, .int .i64 r.em, .int .i64 r.pa, .int .i64 r.sc] 30 (by first | exact Nat.le_refl _ | (simp; done) | (simp; omega))).below hb1; simpa using this)
  have zRB1 := RB.out.lt
  clear hb1
  obtain ⟨PB_1_0, PB_1_1, PB_1_2, PB_1_3⟩ := b4 PB.out
  have lPB_1 := PB.out.lt
  have nPB_1 : x1.heap.size ≠ w.heap.size := by omega
  have mPB_1 : w.heap.size ≠ x1.heap.size := by omega
  obtain ⟨RB_1_0, RB_1_1, RB_1_2, RB_1_3, RB_1_4, RB_1_5, RB_1_6, RB_1_7, RB_1_8⟩ := b9 RB.out
  have lRB_1 := RB.out.lt
  have nRB_1 : x1.heap.size ≠ w.heap.size + 1 := by omega
  have mRB_1 : w.heap.size + 1 ≠ x1.heap.size := by omega
  go_wp2_with fail
  refine (Brief_is nm s G D A B gn gc dn dc sb false N E0 _ hz hgn hgl hdn hdl (Lib.hid (hG.out.below (by (repeat (first | (with_reducible refine Below.drew ?_) | (with_reducible refine below_drewN ?_ _) | (with_reducible refine Below.alloc ?_ (by first | omega | (simp; done) | (simp; omega) | (simp at *; omega)) _) | (with_reducible refine Below.setCell ?_ (by first | omega | (simp; done) | (simp; omega) | (simp at *; omega)) _) | (with_reducible exact Below.refl _ _) | (with_reducible assumption) | (with_reducible refine Below.trans ?_ (Below.mono (by assumption) (by first | omega | (simp; done) | (simp; omega) | (simp at *; omega))))))))) (Lib.hid (hD.out.below (by (repeat (first | (with_reducible refine Below.drew ?_) | (with_reducible refine below_drewN ?_ _) | (with_reducible refine Below.alloc ?_ (by first | omega | (simp; done) | (simp; omega) | (simp at *; omega)) _) | (with_reducible refine Below.setCell ?_ (by first | omega | (simp; done) | (simp; omega) | (simp at *; omega)) _) | (with_reducible exact Below.refl _ _) | (with_reducible assumption) | (with_reducible refine Below.trans ?_ (Below.mono (by assumption) (by first | omega | (simp; done) | (simp; omega) | (simp at *; omega))))))))) hS hE0 hb).mono ?_
  rintro e x2 ⟨rfl, hb2⟩
  have hc2 : Below x1.heap.size x1 x2 := hb2
  have hB2 : Below w.heap.size w x2 := hB1.trans (hc2.mono hB1.size)
  have zu2 := hB2.size
  replace PB := Lib.hid (PB.out.below hc2)
  replace RB := Lib.hid (RB.out.below hc2)
  clear PB_1_0 PB_1_1 PB_1_2 PB_1_3 lPB_1 nPB_1 mPB_1 RB_1_0 RB_1_1 RB_1_2 RB_1_3 RB_1_4 RB_1_5 RB_1_6 RB_1_7 RB_1_8 lRB_1 nRB_1 mRB_1
  clear hb2 hB1 zu1 hc1
  obtain ⟨PB_2_0, PB_2_1, PB_2_2, PB_2_3⟩ := b4 PB.out
  have lPB_2 := PB.out.lt
  have nPB_2 : x2.heap.size ≠ w.heap.size := by omega
  have mPB_2 : w.heap.size ≠ x2.heap.size := by omega
  obtain ⟨RB_2_0, RB_2_1, RB_2_2, RB_2_3, RB_2_4, RB_2_5, RB_2_6, RB_2_7, RB_2_8⟩ := b9 RB.out
  have lRB_2 := RB.out.lt
  have nRB_2 : x2.heap.size ≠ w.heap.size + 1 := by omega
  have mRB_2 : w.heap.size + 1 ≠ x2.heap.size := by omega
  go_wp2
  go_ret
  exact ⟨rfl, hB2⟩
set_option maxRecDepth 100000 in
set_option maxHeartbeats 8000000 in
theorem sv_few (nm : ByteArray) (s : Int) (G : List Ga) (D : List Le) (A B : Option Addr) (gn gc dn dc : Nat) (T : List Ox) (r : Ru) (AT : Option Addr) (tn tc : Nat) (L : List Int) (C : Option Addr) (an cc : Nat) (sb : Bool) (N : Nat) (E0 : Int) (w : World) (hz : nm.size ≤ 9223372036854775807) (hgn : Hid (gn = G.length)) (hgl : gn ≤ 9223372036854775807) (hdn : Hid (dn = D.length)) (hdl : dn ≤ 9223372036854775807) (hG : Hid (SlRows gaV 2 w A G)) (hD : Hid (SlRows leV 3 w B D)) (CG : Hid (A = none → gn = 0 ∧ gc = 0)) (CD : Hid (B = none → dn = 0 ∧ dc = 0)) (htn : Hid (tn = T.length)) (htl : tn ≤ 9223372036854775807) (hT : Hid (SlRows oxV 2 w AT T)) (CT : Hid (AT = none → tn = 0 ∧ tc = 0)) (han : Hid (an = L.length)) (hal : an ≤ 9223372036854775807) (hC : Hid (SlRows inV 1 w C L)) (CA : Hid (C = none → an = 0 ∧ cc = 0)) (hS : Hid (shortB nm.size dn gn = sb)) (hE0 : Hid (plnP nm s G D = (N, E0))) (hb : Hid (briefV sb E0 (secT D dn) = true)) (hF : Hid (fewB tn = false)) :
    Calls Tryz.prog 4 #[.agg #[.string nm, .int .i64 s, .slice A gn gc, .slice B dn dc], .agg #[.slice AT tn tc, .int .i64 r.a, .int .i64 r.b, .int .i64 r.nc, .int .i64 r.dn, .int .i64 r.br, .int .i64 r.em, .int .i64 r.pa, .int .i64 r.sc], .slice C an cc] w fun e w' => e = .returned (.bool true) ∧ Below w.heap.size w w' := by
  go_enter Tryz.func4, Tryz.ntmps4
  go_wp2_with fail
  refine (awake_any _).mono ?_
  rintro e x1 ⟨rfl, hb1⟩
  have hc1 : Below w.heap.size w x1 := (((Below.refl _ _).alloc (by first | exact Nat.le_refl _ | (simp; done) | (simp; omega)) _).alloc (by first | exact Nat.le_refl _ | (simp; done) | (simp; omega)) _).trans (hb1.mono (by first | exact Nat.le_refl _ | (simp; done) | (simp; omega)))
  have hB1 : Below w.heap.size w x1 := hc1
  have zu1 := hB1.size
  have PB : Hid (BlkF x1 w.heap.size (w.heap.size) [.string nm, .int .i64 s, .slice A gn gc, .slice B dn dc]) := Lib.hid (((BlkF.made (B := w.heap.size) w [.string nm, .int .i64 s, .slice A gn gc, .slice B dn dc] 25 (by first | exact Nat.le_refl _ | (simp; done) | (simp; omega))).below ((Below.refl _ _).alloc (Nat.le_refl _) _)).below hb1)
  have zPB1 := PB.out.lt
  have RB : Hid (BlkF x1 w.heap.size (w.heap.size + 1) [.slice AT tn tc, .int .i64 r.a, .int .i64 r.b, .int .i64 r.nc, .int .i64 r.dn, .int .i64 r.br, .int .i64 r.em, .int .i64 r.pa, .int .i64 r.sc]) := Lib.hid (by have := (BlkF.made (B := w.heap.size) (w.alloc (.cells #[.string nm, .int .i64 s, .slice A gn gc, .slice B dn dc] 25)) [.slice AT tn tc, .int .i64 r.a, .int .i64 r.b, .int .i64 r.nc, .int .i64 r.dn, .int .i64 r.br, .int .i64 r.em, .int .i64 r.pa, .int .i64 r.sc] 30 (by first | exact Nat.le_refl _ | (simp; done) | (simp; omega))).below hb1; simpa using this)
  have zRB1 := RB.out.lt
  clear hb1
  obtain ⟨PB_1_0, PB_1_1, PB_1_2, PB_1_3⟩ := b4 PB.out
  have lPB_1 := PB.out.lt
  have nPB_1 : x1.heap.size ≠ w.heap.size := by omega
  have mPB_1 : w.heap.size ≠ x1.heap.size := by omega
  obtain ⟨RB_1_0, RB_1_1, RB_1_2, RB_1_3, RB_1_4, RB_1_5, RB_1_6, RB_1_7, RB_1_8⟩ := b9 RB.out
  have lRB_1 := RB.out.lt
  have nRB_1 : x1.heap.size ≠ w.heap.size + 1 := by omega
  have mRB_1 : w.heap.size + 1 ≠ x1.heap.size := by omega
  go_wp2_with fail
  refine (Brief_is nm s G D A B gn gc dn dc sb true N E0 _ hz hgn hgl hdn hdl (Lib.hid (hG.out.below (by (repeat (first | (with_reducible refine Below.drew ?_) | (with_reducible refine below_drewN ?_ _) | (with_reducible refine Below.alloc ?_ (by first | omega | (simp; done) | (simp; omega) | (simp at *; omega)) _) | (with_reducible refine Below.setCell ?_ (by first | omega | (simp; done) | (simp; omega) | (simp at *; omega)) _) | (with_reducible exact Below.refl _ _) | (with_reducible assumption) | (with_reducible refine Below.trans ?_ (Below.mono (by assumption) (by first | omega | (simp; done) | (simp; omega) | (simp at *; omega))))))))) (Lib.hid (hD.out.below (by (repeat (first | (with_reducible refine Below.drew ?_) | (with_reducible refine below_drewN ?_ _) | (with_reducible refine Below.alloc ?_ (by first | omega | (simp; done) | (simp; omega) | (simp at *; omega)) _) | (with_reducible refine Below.setCell ?_ (by first | omega | (simp; done) | (simp; omega) | (simp at *; omega)) _) | (with_reducible exact Below.refl _ _) | (with_reducible assumption) | (with_reducible refine Below.trans ?_ (Below.mono (by assumption) (by first | omega | (simp; done) | (simp; omega) | (simp at *; omega))))))))) hS hE0 hb).mono ?_
  rintro e x2 ⟨rfl, hb2⟩
  have hc2 : Below x1.heap.size x1 x2 := hb2
  have hB2 : Below w.heap.size w x2 := hB1.trans (hc2.mono hB1.size)
  have zu2 := hB2.size
  replace PB := Lib.hid (PB.out.below hc2)
  replace RB := Lib.hid (RB.out.below hc2)
  clear PB_1_0 PB_1_1 PB_1_2 PB_1_3 lPB_1 nPB_1 mPB_1 RB_1_0 RB_1_1 RB_1_2 RB_1_3 RB_1_4 RB_1_5 RB_1_6 RB_1_7 RB_1_8 lRB_1 nRB_1 mRB_1
  clear hb2 hB1 zu1 hc1
  obtain ⟨PB_2_0, PB_2_1, PB_2_2, PB_2_3⟩ := b4 PB.out
  have lPB_2 := PB.out.lt
  have nPB_2 : x2.heap.size ≠ w.heap.size := by omega
  have mPB_2 : w.heap.size ≠ x2.heap.size := by omega
  obtain ⟨RB_2_0, RB_2_1, RB_2_2, RB_2_3, RB_2_4, RB_2_5, RB_2_6, RB_2_7, RB_2_8⟩ := b9 RB.out
  have lRB_2 := RB.out.lt
  have nRB_2 : x2.heap.size ≠ w.heap.size + 1 := by omega
  have mRB_2 : w.heap.size + 1 ≠ x2.heap.size := by omega
  go_wp2_with fail
  refine (few_is r AT tn tc false _ htl hF).mono ?_
  rintro e x3 ⟨rfl, hb3⟩
  have hc3 : Below x2.heap.size x2 x3 := hb3
  have hB3 : Below w.heap.size w x3 := hB2.trans (hc3.mono hB2.size)
  have zu3 := hB3.size
  replace PB := Lib.hid (PB.out.below hc3)
  replace RB := Lib.hid (RB.out.below hc3)
  clear PB_2_0 PB_2_1 PB_2_2 PB_2_3 lPB_2 nPB_2 mPB_2 RB_2_0 RB_2_1 RB_2_2 RB_2_3 RB_2_4 RB_2_5 RB_2_6 RB_2_7 RB_2_8 lRB_2 nRB_2 mRB_2
  clear hb3 hB2 zu2 hc2
  obtain ⟨PB_3_0, PB_3_1, PB_3_2, PB_3_3⟩ := b4 PB.out
  have lPB_3 := PB.out.lt
  have nPB_3 : x3.heap.size ≠ w.heap.size := by omega
  have mPB_3 : w.heap.size ≠ x3.heap.size := by omega
  obtain ⟨RB_3_0, RB_3_1, RB_3_2, RB_3_3, RB_3_4, RB_3_5, RB_3_6, RB_3_7, RB_3_8⟩ := b9 RB.out
  have lRB_3 := RB.out.lt
  have nRB_3 : x3.heap.size ≠ w.heap.size + 1 := by omega
  have mRB_3 : w.heap.size + 1 ≠ x3.heap.size := by omega
  go_wp2
  go_ret
  exact ⟨rfl, hB3⟩
set_option maxRecDepth 100000 in
set_option maxHeartbeats 8000000 in
theorem sv_len (nm : ByteArray) (s : Int) (G : List Ga) (D : List Le) (A B : Option Addr) (gn gc dn dc : Nat) (T : List Ox) (r : Ru) (AT : Option Addr) (tn tc : Nat) (L : List Int) (C : Option Addr) (an cc : Nat) (sb : Bool) (N : Nat) (E0 : Int) (w : World) (hz : nm.size ≤ 9223372036854775807) (hgn : Hid (gn = G.length)) (hgl : gn ≤ 9223372036854775807) (hdn : Hid (dn = D.length)) (hdl : dn ≤ 9223372036854775807) (hG : Hid (SlRows gaV 2 w A G)) (hD : Hid (SlRows leV 3 w B D)) (CG : Hid (A = none → gn = 0 ∧ gc = 0)) (CD : Hid (B = none → dn = 0 ∧ dc = 0)) (htn : Hid (tn = T.length)) (htl : tn ≤ 9223372036854775807) (hT : Hid (SlRows oxV 2 w AT T)) (CT : Hid (AT = none → tn = 0 ∧ tc = 0)) (han : Hid (an = L.length)) (hal : an ≤ 9223372036854775807) (hC : Hid (SlRows inV 1 w C L)) (CA : Hid (C = none → an = 0 ∧ cc = 0)) (hS : Hid (shortB nm.size dn gn = sb)) (hE0 : Hid (plnP nm s G D = (N, E0))) (hb : Hid (briefV sb E0 (secT D dn) = true)) (hF : Hid (fewB tn = true)) (ha : 12 < an) :
    Calls Tryz.prog 4 #[.agg #[.string nm, .int .i64 s, .slice A gn gc, .slice B dn dc], .agg #[.slice AT tn tc, .int .i64 r.a, .int .i64 r.b, .int .i64 r.nc, .int .i64 r.dn, .int .i64 r.br, .int .i64 r.em, .int .i64 r.pa, .int .i64 r.sc], .slice C an cc] w fun e w' => e = .returned (.bool true) ∧ Below w.heap.size w w' := by
  have ha0 : (12 : Int) < (an : Int) := by omega
  go_enter Tryz.func4, Tryz.ntmps4
  go_wp2_with fail
  refine (awake_any _).mono ?_
  rintro e x1 ⟨rfl, hb1⟩
  have hc1 : Below w.heap.size w x1 := (((Below.refl _ _).alloc (by first | exact Nat.le_refl _ | (simp; done) | (simp; omega)) _).alloc (by first | exact Nat.le_refl _ | (simp; done) | (simp; omega)) _).trans (hb1.mono (by first | exact Nat.le_refl _ | (simp; done) | (simp; omega)))
  have hB1 : Below w.heap.size w x1 := hc1
  have zu1 := hB1.size
  have PB : Hid (BlkF x1 w.heap.size (w.heap.size) [.string nm, .int .i64 s, .slice A gn gc, .slice B dn dc]) := Lib.hid (((BlkF.made (B := w.heap.size) w [.string nm, .int .i64 s, .slice A gn gc, .slice B dn dc] 25 (by first | exact Nat.le_refl _ | (simp; done) | (simp; omega))).below ((Below.refl _ _).alloc (Nat.le_refl _) _)).below hb1)
  have zPB1 := PB.out.lt
  have RB : Hid (BlkF x1 w.heap.size (w.heap.size + 1) [.slice AT tn tc, .int .i64 r.a, .int .i64 r.b, .int .i64 r.nc, .int .i64 r.dn, .int .i64 r.br, .int .i64 r.em, .int .i64 r.pa, .int .i64 r.sc]) := Lib.hid (by have := (BlkF.made (B := w.heap.size) (w.alloc (.cells #[.string nm, .int .i64 s, .slice A gn gc, .slice B dn dc] 25)) [.slice AT tn tc, .int .i64 r.a, .int .i64 r.b, .int .i64 r.nc, .int .i64 r.dn, .int .i64 r.br, .int .i64 r.em, .int .i64 r.pa, .int .i64 r.sc] 30 (by first | exact Nat.le_refl _ | (simp; done) | (simp; omega))).below hb1; simpa using this)
  have zRB1 := RB.out.lt
  clear hb1
  obtain ⟨PB_1_0, PB_1_1, PB_1_2, PB_1_3⟩ := b4 PB.out
  have lPB_1 := PB.out.lt
  have nPB_1 : x1.heap.size ≠ w.heap.size := by omega
  have mPB_1 : w.heap.size ≠ x1.heap.size := by omega
  obtain ⟨RB_1_0, RB_1_1, RB_1_2, RB_1_3, RB_1_4, RB_1_5, RB_1_6, RB_1_7, RB_1_8⟩ := b9 RB.out
  have lRB_1 := RB.out.lt
  have nRB_1 : x1.heap.size ≠ w.heap.size + 1 := by omega
  have mRB_1 : w.heap.size + 1 ≠ x1.heap.size := by omega
  go_wp2_with fail
  refine (Brief_is nm s G D A B gn gc dn dc sb true N E0 _ hz hgn hgl hdn hdl (Lib.hid (hG.out.below (by (repeat (first | (with_reducible refine Below.drew ?_) | (with_reducible refine below_drewN ?_ _) | (with_reducible refine Below.alloc ?_ (by first | omega | (simp; done) | (simp; omega) | (simp at *; omega)) _) | (with_reducible refine Below.setCell ?_ (by first | omega | (simp; done) | (simp; omega) | (simp at *; omega)) _) | (with_reducible exact Below.refl _ _) | (with_reducible assumption) | (with_reducible refine Below.trans ?_ (Below.mono (by assumption) (by first | omega | (simp; done) | (simp; omega) | (simp at *; omega))))))))) (Lib.hid (hD.out.below (by (repeat (first | (with_reducible refine Below.drew ?_) | (with_reducible refine below_drewN ?_ _) | (with_reducible refine Below.alloc ?_ (by first | omega | (simp; done) | (simp; omega) | (simp at *; omega)) _) | (with_reducible refine Below.setCell ?_ (by first | omega | (simp; done) | (simp; omega) | (simp at *; omega)) _) | (with_reducible exact Below.refl _ _) | (with_reducible assumption) | (with_reducible refine Below.trans ?_ (Below.mono (by assumption) (by first | omega | (simp; done) | (simp; omega) | (simp at *; omega))))))))) hS hE0 hb).mono ?_
  rintro e x2 ⟨rfl, hb2⟩
  have hc2 : Below x1.heap.size x1 x2 := hb2
  have hB2 : Below w.heap.size w x2 := hB1.trans (hc2.mono hB1.size)
  have zu2 := hB2.size
  replace PB := Lib.hid (PB.out.below hc2)
  replace RB := Lib.hid (RB.out.below hc2)
  clear PB_1_0 PB_1_1 PB_1_2 PB_1_3 lPB_1 nPB_1 mPB_1 RB_1_0 RB_1_1 RB_1_2 RB_1_3 RB_1_4 RB_1_5 RB_1_6 RB_1_7 RB_1_8 lRB_1 nRB_1 mRB_1
  clear hb2 hB1 zu1 hc1
  obtain ⟨PB_2_0, PB_2_1, PB_2_2, PB_2_3⟩ := b4 PB.out
  have lPB_2 := PB.out.lt
  have nPB_2 : x2.heap.size ≠ w.heap.size := by omega
  have mPB_2 : w.heap.size ≠ x2.heap.size := by omega
  obtain ⟨RB_2_0, RB_2_1, RB_2_2, RB_2_3, RB_2_4, RB_2_5, RB_2_6, RB_2_7, RB_2_8⟩ := b9 RB.out
  have lRB_2 := RB.out.lt
  have nRB_2 : x2.heap.size ≠ w.heap.size + 1 := by omega
  have mRB_2 : w.heap.size + 1 ≠ x2.heap.size := by omega
  go_wp2_with fail
  refine (few_is r AT tn tc true _ htl hF).mono ?_
  rintro e x3 ⟨rfl, hb3⟩
  have hc3 : Below x2.heap.size x2 x3 := hb3
  have hB3 : Below w.heap.size w x3 := hB2.trans (hc3.mono hB2.size)
  have zu3 := hB3.size
  replace PB := Lib.hid (PB.out.below hc3)
  replace RB := Lib.hid (RB.out.below hc3)
  clear PB_2_0 PB_2_1 PB_2_2 PB_2_3 lPB_2 nPB_2 mPB_2 RB_2_0 RB_2_1 RB_2_2 RB_2_3 RB_2_4 RB_2_5 RB_2_6 RB_2_7 RB_2_8 lRB_2 nRB_2 mRB_2
  clear hb3 hB2 zu2 hc2
  obtain ⟨PB_3_0, PB_3_1, PB_3_2, PB_3_3⟩ := b4 PB.out
  have lPB_3 := PB.out.lt
  have nPB_3 : x3.heap.size ≠ w.heap.size := by omega
  have mPB_3 : w.heap.size ≠ x3.heap.size := by omega
  obtain ⟨RB_3_0, RB_3_1, RB_3_2, RB_3_3, RB_3_4, RB_3_5, RB_3_6, RB_3_7, RB_3_8⟩ := b9 RB.out
  have lRB_3 := RB.out.lt
  have nRB_3 : x3.heap.size ≠ w.heap.size + 1 := by omega
  have mRB_3 : w.heap.size + 1 ≠ x3.heap.size := by omega
  go_wp2
  go_ret
  exact ⟨rfl, hB3⟩
set_option maxRecDepth 100000 in
set_option maxHeartbeats 8000000 in
theorem sv_err (nm : ByteArray) (s : Int) (G : List Ga) (D : List Le) (A B : Option Addr) (gn gc dn dc : Nat) (T : List Ox) (r : Ru) (AT : Option Addr) (tn tc : Nat) (L : List Int) (C : Option Addr) (an cc : Nat) (sb : Bool) (N : Nat) (E0 E1 E : Int) (w : World) (hz : nm.size ≤ 9223372036854775807) (hgn : Hid (gn = G.length)) (hgl : gn ≤ 9223372036854775807) (hdn : Hid (dn = D.length)) (hdl : dn ≤ 9223372036854775807) (hG : Hid (SlRows gaV 2 w A G)) (hD : Hid (SlRows leV 3 w B D)) (CG : Hid (A = none → gn = 0 ∧ gc = 0)) (CD : Hid (B = none → dn = 0 ∧ dc = 0)) (htn : Hid (tn = T.length)) (htl : tn ≤ 9223372036854775807) (hT : Hid (SlRows oxV 2 w AT T)) (CT : Hid (AT = none → tn = 0 ∧ tc = 0)) (han : Hid (an = L.length)) (hal : an ≤ 9223372036854775807) (hC : Hid (SlRows inV 1 w C L)) (CA : Hid (C = none → an = 0 ∧ cc = 0)) (hS1 : Hid (shortB nm.size dn gn = true)) (hS : Hid (shortB nm.size dn gn = sb)) (hE0 : Hid (plnP nm s G D = (N, E0))) (hb : Hid (briefV sb E0 (secT D dn) = true)) (hF : Hid (fewB tn = true)) (ha : an ≤ 12) (hE1 : Hid (ruE T r = E1)) (hE : Hid (firE [E0, E1, amE L gn, if 20000 < secT D dn then (8 : Int) else 0] = E)) (hEB : Hid (firE [E0, E1] = E)) (h1 : (E != 0) = true) (h2 : (E == 0) = false) :
    Calls Tryz.prog 4 #[.agg #[.string nm, .int .i64 s, .slice A gn gc, .slice B dn dc], .agg #[.slice AT tn tc, .int .i64 r.a, .int .i64 r.b, .int .i64 r.nc, .int .i64 r.dn, .int .i64 r.br, .int .i64 r.em, .int .i64 r.pa, .int .i64 r.sc], .slice C an cc] w fun e w' => e = .returned (.bool true) ∧ Below w.heap.size w w' := by
  have hsb := shortB_le hS1.out
  have hz6 : nm.size ≤ 1000000 := by omega
  have hg6 : gn ≤ 1000000 := by omega
  have hd6 : dn ≤ 1000000 := by omega
  have ht22 : tn ≤ 22 := fewB_le hF.out
  have ht6 : tn ≤ 1000000 := by omega
  have ha6 : an ≤ 1000000 := by omega
  have ha0 : ¬ (12 : Int) < (an : Int) := by omega
  go_enter Tryz.func4, Tryz.ntmps4
  go_wp2_with fail
  refine (awake_any _).mono ?_
  rintro e x1 ⟨rfl, hb1⟩
  have hc1 : Below w.heap.size w x1 := (((Below.refl _ _).alloc (by first | exact Nat.le_refl _ | (simp; done) | (simp; omega)) _).alloc (by first | exact Nat.le_refl _ | (simp; done) | (simp; omega)) _).trans (hb1.mono (by first | exact Nat.le_refl _ | (simp; done) | (simp; omega)))
  have hB1 : Below w.heap.size w x1 := hc1
  have zu1 := hB1.size
  have PB : Hid (BlkF x1 w.heap.size (w.heap.size) [.string nm, .int .i64 s, .slice A gn gc, .slice B dn dc]) := Lib.hid (((BlkF.made (B := w.heap.size) w [.string nm, .int .i64 s, .slice A gn gc, .slice B dn dc] 25 (by first | exact Nat.le_refl _ | (simp; done) | (simp; omega))).below ((Below.refl _ _).alloc (Nat.le_refl _) _)).below hb1)
  have zPB1 := PB.out.lt
  have RB : Hid (BlkF x1 w.heap.size (w.heap.size + 1) [.slice AT tn tc, .int .i64 r.a, .int .i64 r.b, .int .i64 r.nc, .int .i64 r.dn, .int .i64 r.br, .int .i64 r.em, .int .i64 r.pa, .int .i64 r.sc]) := Lib.hid (by have := (BlkF.made (B := w.heap.size) (w.alloc (.cells #[.string nm, .int .i64 s, .slice A gn gc, .slice B dn dc] 25)) [.slice AT tn tc, .int .i64 r.a, .int .i64 r.b, .int .i64 r.nc, .int .i64 r.dn, .int .i64 r.br, .int .i64 r.em, .int .i64 r.pa, .int .i64 r.sc] 30 (by first | exact Nat.le_refl _ | (simp; done) | (simp; omega))).below hb1; simpa using this)
  have zRB1 := RB.out.lt
  clear hb1
  obtain ⟨PB_1_0, PB_1_1, PB_1_2, PB_1_3⟩ := b4 PB.out
  have lPB_1 := PB.out.lt
  have nPB_1 : x1.heap.size ≠ w.heap.size := by omega
  have mPB_1 : w.heap.size ≠ x1.heap.size := by omega
  obtain ⟨RB_1_0, RB_1_1, RB_1_2, RB_1_3, RB_1_4, RB_1_5, RB_1_6, RB_1_7, RB_1_8⟩ := b9 RB.out
  have lRB_1 := RB.out.lt
  have nRB_1 : x1.heap.size ≠ w.heap.size + 1 := by omega
  have mRB_1 : w.heap.size + 1 ≠ x1.heap.size := by omega
  go_wp2_with fail
  refine (Brief_is nm s G D A B gn gc dn dc sb true N E0 _ hz hgn hgl hdn hdl (Lib.hid (hG.out.below (by (repeat (first | (with_reducible refine Below.drew ?_) | (with_reducible refine below_drewN ?_ _) | (with_reducible refine Below.alloc ?_ (by first | omega | (simp; done) | (simp; omega) | (simp at *; omega)) _) | (with_reducible refine Below.setCell ?_ (by first | omega | (simp; done) | (simp; omega) | (simp at *; omega)) _) | (with_reducible exact Below.refl _ _) | (with_reducible assumption) | (with_reducible refine Below.trans ?_ (Below.mono (by assumption) (by first | omega | (simp; done) | (simp; omega) | (simp at *; omega))))))))) (Lib.hid (hD.out.below (by (repeat (first | (with_reducible refine Below.drew ?_) | (with_reducible refine below_drewN ?_ _) | (with_reducible refine Below.alloc ?_ (by first | omega | (simp; done) | (simp; omega) | (simp at *; omega)) _) | (with_reducible refine Below.setCell ?_ (by first | omega | (simp; done) | (simp; omega) | (simp at *; omega)) _) | (with_reducible exact Below.refl _ _) | (with_reducible assumption) | (with_reducible refine Below.trans ?_ (Below.mono (by assumption) (by first | omega | (simp; done) | (simp; omega) | (simp at *; omega))))))))) hS hE0 hb).mono ?_
  rintro e x2 ⟨rfl, hb2⟩
  have hc2 : Below x1.heap.size x1 x2 := hb2
  have hB2 : Below w.heap.size w x2 := hB1.trans (hc2.mono hB1.size)
  have zu2 := hB2.size
  replace PB := Lib.hid (PB.out.below hc2)
  replace RB := Lib.hid (RB.out.below hc2)
  clear PB_1_0 PB_1_1 PB_1_2 PB_1_3 lPB_1 nPB_1 mPB_1 RB_1_0 RB_1_1 RB_1_2 RB_1_3 RB_1_4 RB_1_5 RB_1_6 RB_1_7 RB_1_8 lRB_1 nRB_1 mRB_1
  clear hb2 hB1 zu1 hc1
  obtain ⟨PB_2_0, PB_2_1, PB_2_2, PB_2_3⟩ := b4 PB.out
  have lPB_2 := PB.out.lt
  have nPB_2 : x2.heap.size ≠ w.heap.size := by omega
  have mPB_2 : w.heap.size ≠ x2.heap.size := by omega
  obtain ⟨RB_2_0, RB_2_1, RB_2_2, RB_2_3, RB_2_4, RB_2_5, RB_2_6, RB_2_7, RB_2_8⟩ := b9 RB.out
  have lRB_2 := RB.out.lt
  have nRB_2 : x2.heap.size ≠ w.heap.size + 1 := by omega
  have mRB_2 : w.heap.size + 1 ≠ x2.heap.size := by omega
  go_wp2_with fail
  refine (few_is r AT tn tc true _ htl hF).mono ?_
  rintro e x3 ⟨rfl, hb3⟩
  have hc3 : Below x2.heap.size x2 x3 := hb3
  have hB3 : Below w.heap.size w x3 := hB2.trans (hc3.mono hB2.size)
  have zu3 := hB3.size
  replace PB := Lib.hid (PB.out.below hc3)
  replace RB := Lib.hid (RB.out.below hc3)
  clear PB_2_0 PB_2_1 PB_2_2 PB_2_3 lPB_2 nPB_2 mPB_2 RB_2_0 RB_2_1 RB_2_2 RB_2_3 RB_2_4 RB_2_5 RB_2_6 RB_2_7 RB_2_8 lRB_2 nRB_2 mRB_2
  clear hb3 hB2 zu2 hc2
  obtain ⟨PB_3_0, PB_3_1, PB_3_2, PB_3_3⟩ := b4 PB.out
  have lPB_3 := PB.out.lt
  have nPB_3 : x3.heap.size ≠ w.heap.size := by omega
  have mPB_3 : w.heap.size ≠ x3.heap.size := by omega
  obtain ⟨RB_3_0, RB_3_1, RB_3_2, RB_3_3, RB_3_4, RB_3_5, RB_3_6, RB_3_7, RB_3_8⟩ := b9 RB.out
  have lRB_3 := RB.out.lt
  have nRB_3 : x3.heap.size ≠ w.heap.size + 1 := by omega
  have mRB_3 : w.heap.size + 1 ≠ x3.heap.size := by omega
  go_upto_region 5 with (fail)
  have HS : Hid (∀ y, Below x3.heap.size x3 y → y.cell? ⟨w.heap.size, 0, none⟩ = some (.string nm) ∧ y.cell? ⟨w.heap.size, 1, none⟩ = some (.int .i64 s) ∧ y.cell? ⟨w.heap.size, 2, none⟩ = some (.slice A gn gc) ∧ y.cell? ⟨w.heap.size, 3, none⟩ = some (.slice B dn dc) ∧ y.cell? ⟨w.heap.size + 1, 0, none⟩ = some (.slice AT tn tc) ∧ y.cell? ⟨w.heap.size + 1, 1, none⟩ = some (.int .i64 r.a) ∧ y.cell? ⟨w.heap.size + 1, 2, none⟩ = some (.int .i64 r.b) ∧ y.cell? ⟨w.heap.size + 1, 3, none⟩ = some (.int .i64 r.nc) ∧ y.cell? ⟨w.heap.size + 1, 4, none⟩ = some (.int .i64 r.dn) ∧ y.cell? ⟨w.heap.size + 1, 5, none⟩ = some (.int .i64 r.br) ∧ y.cell? ⟨w.heap.size + 1, 6, none⟩ = some (.int .i64 r.em) ∧ y.cell? ⟨w.heap.size + 1, 7, none⟩ = some (.int .i64 r.pa) ∧ y.cell? ⟨w.heap.size + 1, 8, none⟩ = some (.int .i64 r.sc)) := Lib.hid fun y hy => ⟨(hy.cell (p := ⟨w.heap.size, 0, none⟩) lPB_3).trans PB_3_0, (hy.cell (p := ⟨w.heap.size, 1, none⟩) lPB_3).trans PB_3_1, (hy.cell (p := ⟨w.heap.size, 2, none⟩) lPB_3).trans PB_3_2, (hy.cell (p := ⟨w.heap.size, 3, none⟩) lPB_3).trans PB_3_3, (hy.cell (p := ⟨w.heap.size + 1, 0, none⟩) lRB_3).trans RB_3_0, (hy.cell (p := ⟨w.heap.size + 1, 1, none⟩) lRB_3).trans RB_3_1, (hy.cell (p := ⟨w.heap.size + 1, 2, none⟩) lRB_3).trans RB_3_2, (hy.cell (p := ⟨w.heap.size + 1, 3, none⟩) lRB_3).trans RB_3_3, (hy.cell (p := ⟨w.heap.size + 1, 4, none⟩) lRB_3).trans RB_3_4, (hy.cell (p := ⟨w.heap.size + 1, 5, none⟩) lRB_3).trans RB_3_5, (hy.cell (p := ⟨w.heap.size + 1, 6, none⟩) lRB_3).trans RB_3_6, (hy.cell (p := ⟨w.heap.size + 1, 7, none⟩) lRB_3).trans RB_3_7, (hy.cell (p := ⟨w.heap.size + 1, 8, none⟩) lRB_3).trans RB_3_8⟩
  refine wp_region_held_drew (S := (fun w' => w'.cell? ⟨w.heap.size, 0, none⟩ = some (.string nm) ∧ w'.cell? ⟨w.heap.size, 1, none⟩ = some (.int .i64 s) ∧ w'.cell? ⟨w.heap.size, 2, none⟩ = some (.slice A gn gc) ∧ w'.cell? ⟨w.heap.size, 3, none⟩ = some (.slice B dn dc) ∧ w'.cell? ⟨w.heap.size + 1, 0, none⟩ = some (.slice AT tn tc) ∧ w'.cell? ⟨w.heap.size + 1, 1, none⟩ = some (.int .i64 r.a) ∧ w'.cell? ⟨w.heap.size + 1, 2, none⟩ = some (.int .i64 r.b) ∧ w'.cell? ⟨w.heap.size + 1, 3, none⟩ = some (.int .i64 r.nc) ∧ w'.cell? ⟨w.heap.size + 1, 4, none⟩ = some (.int .i64 r.dn) ∧ w'.cell? ⟨w.heap.size + 1, 5, none⟩ = some (.int .i64 r.br) ∧ w'.cell? ⟨w.heap.size + 1, 6, none⟩ = some (.int .i64 r.em) ∧ w'.cell? ⟨w.heap.size + 1, 7, none⟩ = some (.int .i64 r.pa) ∧ w'.cell? ⟨w.heap.size + 1, 8, none⟩ = some (.int .i64 r.sc))) (by kernel_rfl) (HS.out _ (Below.refl _ _).drew) (fun hHeld => ?_)
  have hT0 : Below x3.heap.size x3 x3.drew := (Below.refl _ _).drew
  generalize hdr : x3.drew = y3v0 at *
  clear hdr
  refine tkH 0 ⟨some 29, _, _, _, _, _⟩ ?_ rfl ?_ (by assumption) ?_
  rotate_left
  · (intro w hSw; (try dsimp only at hSw); go_simp; all_goals with_reducible rfl)
  try simp only [Act.put, sA, sB, sC]
  refine tkH 2 ⟨some 31, _, _, _, _, _⟩ ?_ rfl ?_ (by assumption) ?_
  rotate_left
  · (intro w hSw; (try dsimp only at hSw); go_simp; all_goals with_reducible rfl)
  try simp only [Act.put, sA, sB, sC]
  refine tkH 4 ⟨some 33, _, _, _, _, _⟩ ?_ rfl ?_ (by assumption) ?_
  rotate_left
  · (intro w hSw; (try dsimp only at hSw); go_simp; all_goals with_reducible rfl)
  try simp only [Act.put, sA, sB, sC]
  refine wpAnyH_ready (rs := [1]) (by kernel_rfl) (by simp) ?_
  refine AllReadyH.cons rfl (fun K hK => ?_) (AllReadyH.nil)
  go_simp
  refine (copyP_is nm s G D A B gn gc dn dc _ hgn hdn hg6 hd6 (Lib.hid (hG.out.below (hB3.trans (hT0.mono hB3.size)))) (Lib.hid (hD.out.below (hB3.trans (hT0.mono hB3.size)))) CG CD).mono ?_
  rintro e y3v1 ⟨A1, ca1, B1, cb1, rfl, hsg, hsd, hna, hnb, hby3v0⟩
  have hT1 : Below x3.heap.size x3 y3v1 := hT0.trans (hby3v0.mono hT0.size)
  have HG1 := Lib.hid hsg
  have HD1 := Lib.hid hsd
  clear hsg hsd hna hnb
  clear hby3v0
  go_wp2_with fail
  refine hK.out _ _ (HS.out _ hT1) (fun hHeld => ?_)
  clear hK K
  try simp only [Act.put, sA, sB, sC]
  refine wpAnyH_ready (rs := [3]) (by kernel_rfl) (by simp) ?_
  refine AllReadyH.cons rfl (fun K hK => ?_) (AllReadyH.nil)
  go_simp
  refine (copyR_is T r AT tn tc _ htn ht6 (Lib.hid (hT.out.below (hB3.trans (hT1.mono hB3.size)))) CT).mono ?_
  rintro e y3v2 ⟨AT1, ct1, rfl, hst, hby3v1⟩
  have hT2 : Below x3.heap.size x3 y3v2 := hT1.trans (hby3v1.mono hT1.size)
  replace HG1 := Lib.hid (HG1.out.below hby3v1)
  replace HD1 := Lib.hid (HD1.out.below hby3v1)
  have HT1 := Lib.hid hst
  clear hst
  clear hby3v1
  go_wp2_with fail
  refine hK.out _ _ (HS.out _ hT2) (fun hHeld => ?_)
  clear hK K
  try simp only [Act.put, sA, sB, sC]
  refine wpAnyH_ready (rs := [5]) (by kernel_rfl) (by simp) ?_
  refine AllReadyH.cons rfl (fun K hK => ?_) (AllReadyH.nil)
  go_simp
  refine (copyIn_is L C cc an _ han ha6 (Lib.hid (hC.out.below (hB3.trans (hT2.mono hB3.size)))) CA).mono ?_
  rintro e y3v3 ⟨C1, cc1, rfl, hsc, hnc, hnd, hby3v2⟩
  have hT3 : Below x3.heap.size x3 y3v3 := hT2.trans (hby3v2.mono hT2.size)
  replace HG1 := Lib.hid (HG1.out.below hby3v2)
  replace HD1 := Lib.hid (HD1.out.below hby3v2)
  replace HT1 := Lib.hid (HT1.out.below hby3v2)
  have HC1 := Lib.hid hsc
  clear hsc hnc hnd
  clear hby3v2
  go_wp2_with fail
  refine hK.out _ _ (HS.out _ hT3) (fun hHeld => ?_)
  clear hK K
  try simp only [Act.put, sA, sB, sC]
  refine wpAnyH_ready (rs := [6]) (by kernel_rfl) (by simp) ?_
  refine AllReadyH.cons rfl (fun K hK => ?_) (AllReadyH.nil)
  go_simp
  refine (Survives_bad nm s G D A1 B1 gn ca1 dn cb1 T r AT1 tn ct1 L C1 an cc1 N E0 E1 E _ hz hgn hgl hdn hdl HG1 HD1 htn htl HT1 han ha6 HC1 hE0 hE1 hE h1).mono ?_
  rintro e y3v4 ⟨rfl, hby3v3⟩
  have hT4 : Below x3.heap.size x3 y3v4 := hT3.trans (hby3v3.mono hT3.size)
  replace HG1 := Lib.hid (HG1.out.below hby3v3)
  replace HD1 := Lib.hid (HD1.out.below hby3v3)
  replace HT1 := Lib.hid (HT1.out.below hby3v3)
  replace HC1 := Lib.hid (HC1.out.below hby3v3)
  clear hby3v3
  go_wp2_with fail
  refine hK.out _ _ (HS.out _ hT4) (fun hHeld => ?_)
  clear hK K
  try simp only [Act.put, sA, sB, sC]
  refine tkH 7 ⟨some 28, _, _, _, _, _⟩ ?_ rfl ?_ (by assumption) ?_
  rotate_left
  · (intro w hSw; (try dsimp only at hSw); go_simp; all_goals with_reducible rfl)
  try simp only [Act.put, sA, sB, sC]
  refine tkH 8 ⟨some 36, _, _, _, _, _⟩ ?_ rfl ?_ (by assumption) ?_
  rotate_left
  · (intro w hSw; (try dsimp only at hSw); go_simp; all_goals with_reducible rfl)
  try simp only [Act.put, sA, sB, sC]
  refine tkH 9 ⟨some 37, _, _, _, _, _⟩ ?_ rfl ?_ (by assumption) ?_
  rotate_left
  · (intro w hSw; (try dsimp only at hSw); go_simp; all_goals with_reducible rfl)
  try simp only [Act.put, sA, sB, sC]
  refine tkH 10 ⟨some 7, _, _, _, _, _⟩ ?_ rfl ?_ (by assumption) ?_
  rotate_left
  · (intro w hSw; (try dsimp only at hSw); go_simp; all_goals with_reducible rfl)
  try simp only [Act.put, sA, sB, sC]
  refine tkH 11 ⟨some 8, _, _, _, _, _⟩ ?_ rfl ?_ (by assumption) ?_
  rotate_left
  · (intro w hSw; (try dsimp only at hSw); go_simp; all_goals with_reducible rfl)
  try simp only [Act.put, sA, sB, sC]
  refine wpAnyH_done (by kernel_rfl) ?_ _
  have hc4 : Below x3.heap.size x3 y3v4 := hT4
  have hB4 : Below w.heap.size w y3v4 := hB3.trans (hc4.mono hB3.size)
  have zu4 := hB4.size
  replace PB := Lib.hid (PB.out.below hc4)
  replace RB := Lib.hid (RB.out.below hc4)
  clear PB_3_0 PB_3_1 PB_3_2 PB_3_3 lPB_3 nPB_3 mPB_3 RB_3_0 RB_3_1 RB_3_2 RB_3_3 RB_3_4 RB_3_5 RB_3_6 RB_3_7 RB_3_8 lRB_3 nRB_3 mRB_3
  clear HS hHeld hT0 hT1 hT2 hT3 hT4 hB3 zu3 hc3
  obtain ⟨PB_4_0, PB_4_1, PB_4_2, PB_4_3⟩ := b4 PB.out
  have lPB_4 := PB.out.lt
  have nPB_4 : y3v4.heap.size ≠ w.heap.size := by omega
  have mPB_4 : w.heap.size ≠ y3v4.heap.size := by omega
  obtain ⟨RB_4_0, RB_4_1, RB_4_2, RB_4_3, RB_4_4, RB_4_5, RB_4_6, RB_4_7, RB_4_8⟩ := b9 RB.out
  have lRB_4 := RB.out.lt
  have nRB_4 : y3v4.heap.size ≠ w.heap.size + 1 := by omega
  have mRB_4 : w.heap.size + 1 ≠ y3v4.heap.size := by omega
  clear HG1
  clear HD1
  clear HT1
  clear HC1
  go_upto_region 6 with (fail)
  have HS : Hid (∀ y, Below y3v4.heap.size y3v4 y → y.cell? ⟨w.heap.size, 0, none⟩ = some (.string nm) ∧ y.cell? ⟨w.heap.size, 1, none⟩ = some (.int .i64 s) ∧ y.cell? ⟨w.heap.size, 2, none⟩ = some (.slice A gn gc) ∧ y.cell? ⟨w.heap.size, 3, none⟩ = some (.slice B dn dc) ∧ y.cell? ⟨w.heap.size + 1, 0, none⟩ = some (.slice AT tn tc) ∧ y.cell? ⟨w.heap.size + 1, 1, none⟩ = some (.int .i64 r.a) ∧ y.cell? ⟨w.heap.size + 1, 2, none⟩ = some (.int .i64 r.b) ∧ y.cell? ⟨w.heap.size + 1, 3, none⟩ = some (.int .i64 r.nc) ∧ y.cell? ⟨w.heap.size + 1, 4, none⟩ = some (.int .i64 r.dn) ∧ y.cell? ⟨w.heap.size + 1, 5, none⟩ = some (.int .i64 r.br) ∧ y.cell? ⟨w.heap.size + 1, 6, none⟩ = some (.int .i64 r.em) ∧ y.cell? ⟨w.heap.size + 1, 7, none⟩ = some (.int .i64 r.pa) ∧ y.cell? ⟨w.heap.size + 1, 8, none⟩ = some (.int .i64 r.sc)) := Lib.hid fun y hy => ⟨(hy.cell (p := ⟨w.heap.size, 0, none⟩) lPB_4).trans PB_4_0, (hy.cell (p := ⟨w.heap.size, 1, none⟩) lPB_4).trans PB_4_1, (hy.cell (p := ⟨w.heap.size, 2, none⟩) lPB_4).trans PB_4_2, (hy.cell (p := ⟨w.heap.size, 3, none⟩) lPB_4).trans PB_4_3, (hy.cell (p := ⟨w.heap.size + 1, 0, none⟩) lRB_4).trans RB_4_0, (hy.cell (p := ⟨w.heap.size + 1, 1, none⟩) lRB_4).trans RB_4_1, (hy.cell (p := ⟨w.heap.size + 1, 2, none⟩) lRB_4).trans RB_4_2, (hy.cell (p := ⟨w.heap.size + 1, 3, none⟩) lRB_4).trans RB_4_3, (hy.cell (p := ⟨w.heap.size + 1, 4, none⟩) lRB_4).trans RB_4_4, (hy.cell (p := ⟨w.heap.size + 1, 5, none⟩) lRB_4).trans RB_4_5, (hy.cell (p := ⟨w.heap.size + 1, 6, none⟩) lRB_4).trans RB_4_6, (hy.cell (p := ⟨w.heap.size + 1, 7, none⟩) lRB_4).trans RB_4_7, (hy.cell (p := ⟨w.heap.size + 1, 8, none⟩) lRB_4).trans RB_4_8⟩
  refine wp_region_held_drew (S := (fun w' => w'.cell? ⟨w.heap.size, 0, none⟩ = some (.string nm) ∧ w'.cell? ⟨w.heap.size, 1, none⟩ = some (.int .i64 s) ∧ w'.cell? ⟨w.heap.size, 2, none⟩ = some (.slice A gn gc) ∧ w'.cell? ⟨w.heap.size, 3, none⟩ = some (.slice B dn dc) ∧ w'.cell? ⟨w.heap.size + 1, 0, none⟩ = some (.slice AT tn tc) ∧ w'.cell? ⟨w.heap.size + 1, 1, none⟩ = some (.int .i64 r.a) ∧ w'.cell? ⟨w.heap.size + 1, 2, none⟩ = some (.int .i64 r.b) ∧ w'.cell? ⟨w.heap.size + 1, 3, none⟩ = some (.int .i64 r.nc) ∧ w'.cell? ⟨w.heap.size + 1, 4, none⟩ = some (.int .i64 r.dn) ∧ w'.cell? ⟨w.heap.size + 1, 5, none⟩ = some (.int .i64 r.br) ∧ w'.cell? ⟨w.heap.size + 1, 6, none⟩ = some (.int .i64 r.em) ∧ w'.cell? ⟨w.heap.size + 1, 7, none⟩ = some (.int .i64 r.pa) ∧ w'.cell? ⟨w.heap.size + 1, 8, none⟩ = some (.int .i64 r.sc))) (by kernel_rfl) (HS.out _ (Below.refl _ _).drew) (fun hHeld => ?_)
  have hT0 : Below y3v4.heap.size y3v4 y3v4.drew := (Below.refl _ _).drew
  generalize hdr : y3v4.drew = y4v0 at *
  clear hdr
  refine tkH 0 ⟨some 39, _, _, _, _, _⟩ ?_ rfl ?_ (by assumption) ?_
  rotate_left
  · (intro w hSw; (try dsimp only at hSw); go_simp; all_goals with_reducible rfl)
  try simp only [Act.put, sA, sB, sC]
  refine tkH 2 ⟨some 41, _, _, _, _, _⟩ ?_ rfl ?_ (by assumption) ?_
  rotate_left
  · (intro w hSw; (try dsimp only at hSw); go_simp; all_goals with_reducible rfl)
  try simp only [Act.put, sA, sB, sC]
  refine tkH 4 ⟨some 43, _, _, _, _, _⟩ ?_ rfl ?_ (by assumption) ?_
  rotate_left
  · (intro w hSw; (try dsimp only at hSw); go_simp; all_goals with_reducible rfl)
  try simp only [Act.put, sA, sB, sC]
  refine wpAnyH_ready (rs := [1]) (by kernel_rfl) (by simp) ?_
  refine AllReadyH.cons rfl (fun K hK => ?_) (AllReadyH.nil)
  go_simp
  refine (copyP_is nm s G D A B gn gc dn dc _ hgn hdn hg6 hd6 (Lib.hid (hG.out.below (hB4.trans (hT0.mono hB4.size)))) (Lib.hid (hD.out.below (hB4.trans (hT0.mono hB4.size)))) CG CD).mono ?_
  rintro e y4v1 ⟨A2, ca2, B2, cb2, rfl, hsg, hsd, hna, hnb, hby4v0⟩
  have hT1 : Below y3v4.heap.size y3v4 y4v1 := hT0.trans (hby4v0.mono hT0.size)
  have HG2 := Lib.hid hsg
  have HD2 := Lib.hid hsd
  clear hsg hsd hna hnb
  clear hby4v0
  go_wp2_with fail
  refine hK.out _ _ (HS.out _ hT1) (fun hHeld => ?_)
  clear hK K
  try simp only [Act.put, sA, sB, sC]
  refine wpAnyH_ready (rs := [3]) (by kernel_rfl) (by simp) ?_
  refine AllReadyH.cons rfl (fun K hK => ?_) (AllReadyH.nil)
  go_simp
  refine (copyR_is T r AT tn tc _ htn ht6 (Lib.hid (hT.out.below (hB4.trans (hT1.mono hB4.size)))) CT).mono ?_
  rintro e y4v2 ⟨AT2, ct2, rfl, hst, hby4v1⟩
  have hT2 : Below y3v4.heap.size y3v4 y4v2 := hT1.trans (hby4v1.mono hT1.size)
  replace HG2 := Lib.hid (HG2.out.below hby4v1)
  replace HD2 := Lib.hid (HD2.out.below hby4v1)
  have HT2 := Lib.hid hst
  clear hst
  clear hby4v1
  go_wp2_with fail
  refine hK.out _ _ (HS.out _ hT2) (fun hHeld => ?_)
  clear hK K
  try simp only [Act.put, sA, sB, sC]
  refine wpAnyH_ready (rs := [5]) (by kernel_rfl) (by simp) ?_
  refine AllReadyH.cons rfl (fun K hK => ?_) (AllReadyH.nil)
  go_simp
  refine (copyIn_is L C cc an _ han ha6 (Lib.hid (hC.out.below (hB4.trans (hT2.mono hB4.size)))) CA).mono ?_
  rintro e y4v3 ⟨C2, cc2, rfl, hsc, hnc, hnd, hby4v2⟩
  have hT3 : Below y3v4.heap.size y3v4 y4v3 := hT2.trans (hby4v2.mono hT2.size)
  replace HG2 := Lib.hid (HG2.out.below hby4v2)
  replace HD2 := Lib.hid (HD2.out.below hby4v2)
  replace HT2 := Lib.hid (HT2.out.below hby4v2)
  have HC2 := Lib.hid hsc
  clear hsc hnc hnd
  clear hby4v2
  go_wp2_with fail
  refine hK.out _ _ (HS.out _ hT3) (fun hHeld => ?_)
  clear hK K
  try simp only [Act.put, sA, sB, sC]
  refine wpAnyH_ready (rs := [6]) (by kernel_rfl) (by simp) ?_
  refine AllReadyH.cons rfl (fun K hK => ?_) (AllReadyH.nil)
  go_simp
  refine (LastTurn_bad nm s G D A2 B2 gn ca2 dn cb2 T r AT2 tn ct2 L C2 an cc2 N E0 E1 E _ hz hgn hgl hdn hdl HG2 HD2 htn htl HT2 han ha6 HC2 hE0 hE1 hE h1).mono ?_
  rintro e y4v4 ⟨rfl, hby4v3⟩
  have hT4 : Below y3v4.heap.size y3v4 y4v4 := hT3.trans (hby4v3.mono hT3.size)
  replace HG2 := Lib.hid (HG2.out.below hby4v3)
  replace HD2 := Lib.hid (HD2.out.below hby4v3)
  replace HT2 := Lib.hid (HT2.out.below hby4v3)
  replace HC2 := Lib.hid (HC2.out.below hby4v3)
  clear hby4v3
  go_wp2_with fail
  refine hK.out _ _ (HS.out _ hT4) (fun hHeld => ?_)
  clear hK K
  try simp only [Act.put, sA, sB, sC]
  refine tkH 7 ⟨some 38, _, _, _, _, _⟩ ?_ rfl ?_ (by assumption) ?_
  rotate_left
  · (intro w hSw; (try dsimp only at hSw); go_simp; all_goals with_reducible rfl)
  try simp only [Act.put, sA, sB, sC]
  refine tkH 8 ⟨some 46, _, _, _, _, _⟩ ?_ rfl ?_ (by assumption) ?_
  rotate_left
  · (intro w hSw; (try dsimp only at hSw); go_simp; all_goals with_reducible rfl)
  try simp only [Act.put, sA, sB, sC]
  refine tkH 9 ⟨some 47, _, _, _, _, _⟩ ?_ rfl ?_ (by assumption) ?_
  rotate_left
  · (intro w hSw; (try dsimp only at hSw); go_simp; all_goals with_reducible rfl)
  try simp only [Act.put, sA, sB, sC]
  refine tkH 10 ⟨some 9, _, _, _, _, _⟩ ?_ rfl ?_ (by assumption) ?_
  rotate_left
  · (intro w hSw; (try dsimp only at hSw); go_simp; all_goals with_reducible rfl)
  try simp only [Act.put, sA, sB, sC]
  refine tkH 11 ⟨some 10, _, _, _, _, _⟩ ?_ rfl ?_ (by assumption) ?_
  rotate_left
  · (intro w hSw; (try dsimp only at hSw); go_simp; all_goals with_reducible rfl)
  try simp only [Act.put, sA, sB, sC]
  refine wpAnyH_done (by kernel_rfl) ?_ _
  have hc5 : Below y3v4.heap.size y3v4 y4v4 := hT4
  have hB5 : Below w.heap.size w y4v4 := hB4.trans (hc5.mono hB4.size)
  have zu5 := hB5.size
  replace PB := Lib.hid (PB.out.below hc5)
  replace RB := Lib.hid (RB.out.below hc5)
  clear PB_4_0 PB_4_1 PB_4_2 PB_4_3 lPB_4 nPB_4 mPB_4 RB_4_0 RB_4_1 RB_4_2 RB_4_3 RB_4_4 RB_4_5 RB_4_6 RB_4_7 RB_4_8 lRB_4 nRB_4 mRB_4
  clear HS hHeld hT0 hT1 hT2 hT3 hT4 hB4 zu4 hc4
  obtain ⟨PB_5_0, PB_5_1, PB_5_2, PB_5_3⟩ := b4 PB.out
  have lPB_5 := PB.out.lt
  have nPB_5 : y4v4.heap.size ≠ w.heap.size := by omega
  have mPB_5 : w.heap.size ≠ y4v4.heap.size := by omega
  obtain ⟨RB_5_0, RB_5_1, RB_5_2, RB_5_3, RB_5_4, RB_5_5, RB_5_6, RB_5_7, RB_5_8⟩ := b9 RB.out
  have lRB_5 := RB.out.lt
  have nRB_5 : y4v4.heap.size ≠ w.heap.size + 1 := by omega
  have mRB_5 : w.heap.size + 1 ≠ y4v4.heap.size := by omega
  clear HG2
  clear HD2
  clear HT2
  clear HC2
  go_wp2_with fail
  refine (refBoth_any nm s G D A B gn gc dn dc T r AT tn tc N E0 E1 E _ hz6 hgn hgl hdn hdl (Lib.hid (hG.out.below (by (repeat (first | (with_reducible refine Below.drew ?_) | (with_reducible refine below_drewN ?_ _) | (with_reducible refine Below.alloc ?_ (by first | omega | (simp; done) | (simp; omega) | (simp at *; omega)) _) | (with_reducible refine Below.setCell ?_ (by first | omega | (simp; done) | (simp; omega) | (simp at *; omega)) _) | (with_reducible exact Below.refl _ _) | (with_reducible assumption) | (with_reducible refine Below.trans ?_ (Below.mono (by assumption) (by first | omega | (simp; done) | (simp; omega) | (simp at *; omega))))))))) (Lib.hid (hD.out.below (by (repeat (first | (with_reducible refine Below.drew ?_) | (with_reducible refine below_drewN ?_ _) | (with_reducible refine Below.alloc ?_ (by first | omega | (simp; done) | (simp; omega) | (simp at *; omega)) _) | (with_reducible refine Below.setCell ?_ (by first | omega | (simp; done) | (simp; omega) | (simp at *; omega)) _) | (with_reducible exact Below.refl _ _) | (with_reducible assumption) | (with_reducible refine Below.trans ?_ (Below.mono (by assumption) (by first | omega | (simp; done) | (simp; omega) | (simp at *; omega))))))))) hE0 htn htl (Lib.hid (hT.out.below (by (repeat (first | (with_reducible refine Below.drew ?_) | (with_reducible refine below_drewN ?_ _) | (with_reducible refine Below.alloc ?_ (by first | omega | (simp; done) | (simp; omega) | (simp at *; omega)) _) | (with_reducible refine Below.setCell ?_ (by first | omega | (simp; done) | (simp; omega) | (simp at *; omega)) _) | (with_reducible exact Below.refl _ _) | (with_reducible assumption) | (with_reducible refine Below.trans ?_ (Below.mono (by assumption) (by first | omega | (simp; done) | (simp; omega) | (simp at *; omega))))))))) hE1 hEB).mono ?_
  rintro e x6 ⟨rfl, hb6⟩
  have hc6 : Below y4v4.heap.size y4v4 x6 := hb6
  have hB6 : Below w.heap.size w x6 := hB5.trans (hc6.mono hB5.size)
  have zu6 := hB6.size
  replace PB := Lib.hid (PB.out.below hc6)
  replace RB := Lib.hid (RB.out.below hc6)
  clear PB_5_0 PB_5_1 PB_5_2 PB_5_3 lPB_5 nPB_5 mPB_5 RB_5_0 RB_5_1 RB_5_2 RB_5_3 RB_5_4 RB_5_5 RB_5_6 RB_5_7 RB_5_8 lRB_5 nRB_5 mRB_5
  clear hb6 hB5 zu5 hc5
  obtain ⟨PB_6_0, PB_6_1, PB_6_2, PB_6_3⟩ := b4 PB.out
  have lPB_6 := PB.out.lt
  have nPB_6 : x6.heap.size ≠ w.heap.size := by omega
  have mPB_6 : w.heap.size ≠ x6.heap.size := by omega
  obtain ⟨RB_6_0, RB_6_1, RB_6_2, RB_6_3, RB_6_4, RB_6_5, RB_6_6, RB_6_7, RB_6_8⟩ := b9 RB.out
  have lRB_6 := RB.out.lt
  have nRB_6 : x6.heap.size ≠ w.heap.size + 1 := by omega
  have mRB_6 : w.heap.size + 1 ≠ x6.heap.size := by omega
  go_wp2
  go_ret
  exact ⟨rfl, hB6⟩
set_option maxRecDepth 100000 in
set_option maxHeartbeats 8000000 in
theorem sv_amt (nm : ByteArray) (s : Int) (G : List Ga) (D : List Le) (A B : Option Addr) (gn gc dn dc : Nat) (T : List Ox) (r : Ru) (AT : Option Addr) (tn tc : Nat) (L : List Int) (C : Option Addr) (an cc : Nat) (sb : Bool) (N : Nat) (E : Int) (w : World) (hz : nm.size ≤ 9223372036854775807) (hgn : Hid (gn = G.length)) (hgl : gn ≤ 9223372036854775807) (hdn : Hid (dn = D.length)) (hdl : dn ≤ 9223372036854775807) (hG : Hid (SlRows gaV 2 w A G)) (hD : Hid (SlRows leV 3 w B D)) (CG : Hid (A = none → gn = 0 ∧ gc = 0)) (CD : Hid (B = none → dn = 0 ∧ dc = 0)) (htn : Hid (tn = T.length)) (htl : tn ≤ 9223372036854775807) (hT : Hid (SlRows oxV 2 w AT T)) (CT : Hid (AT = none → tn = 0 ∧ tc = 0)) (han : Hid (an = L.length)) (hal : an ≤ 9223372036854775807) (hC : Hid (SlRows inV 1 w C L)) (CA : Hid (C = none → an = 0 ∧ cc = 0)) (hS1 : Hid (shortB nm.size dn gn = true)) (hS : Hid (shortB nm.size dn gn = sb)) (hE0 : Hid (plnP nm s G D = (N, 0))) (hb : Hid (briefV sb 0 (secT D dn) = true)) (hF : Hid (fewB tn = true)) (ha : an ≤ 12) (hE1 : Hid (ruE T r = 0)) (hE : Hid (firE [0, 0, amE L gn, if 20000 < secT D dn then (8 : Int) else 0] = E)) (hEB : Hid (firE [0, 0] = 0)) (hEA : Hid (amE L gn = E)) (h1 : (E != 0) = true) (h2 : (E == 0) = false) :
    Calls Tryz.prog 4 #[.agg #[.string nm, .int .i64 s, .slice A gn gc, .slice B dn dc], .agg #[.slice AT tn tc, .int .i64 r.a, .int .i64 r.b, .int .i64 r.nc, .int .i64 r.dn, .int .i64 r.br, .int .i64 r.em, .int .i64 r.pa, .int .i64 r.sc], .slice C an cc] w fun e w' => e = .returned (.bool true) ∧ Below w.heap.size w w' := by
  have hsb := shortB_le hS1.out
  have hz6 : nm.size ≤ 1000000 := by omega
  have hg6 : gn ≤ 1000000 := by omega
  have hd6 : dn ≤ 1000000 := by omega
  have ht22 : tn ≤ 22 := fewB_le hF.out
  have ht6 : tn ≤ 1000000 := by omega
  have ha6 : an ≤ 1000000 := by omega
  have ha0 : ¬ (12 : Int) < (an : Int) := by omega
  go_enter Tryz.func4, Tryz.ntmps4
  go_wp2_with fail
  refine (awake_any _).mono ?_
  rintro e x1 ⟨rfl, hb1⟩
  have hc1 : Below w.heap.size w x1 := (((Below.refl _ _).alloc (by first | exact Nat.le_refl _ | (simp; done) | (simp; omega)) _).alloc (by first | exact Nat.le_refl _ | (simp; done) | (simp; omega)) _).trans (hb1.mono (by first | exact Nat.le_refl _ | (simp; done) | (simp; omega)))
  have hB1 : Below w.heap.size w x1 := hc1
  have zu1 := hB1.size
  have PB : Hid (BlkF x1 w.heap.size (w.heap.size) [.string nm, .int .i64 s, .slice A gn gc, .slice B dn dc]) := Lib.hid (((BlkF.made (B := w.heap.size) w [.string nm, .int .i64 s, .slice A gn gc, .slice B dn dc] 25 (by first | exact Nat.le_refl _ | (simp; done) | (simp; omega))).below ((Below.refl _ _).alloc (Nat.le_refl _) _)).below hb1)
  have zPB1 := PB.out.lt
  have RB : Hid (BlkF x1 w.heap.size (w.heap.size + 1) [.slice AT tn tc, .int .i64 r.a, .int .i64 r.b, .int .i64 r.nc, .int .i64 r.dn, .int .i64 r.br, .int .i64 r.em, .int .i64 r.pa, .int .i64 r.sc]) := Lib.hid (by have := (BlkF.made (B := w.heap.size) (w.alloc (.cells #[.string nm, .int .i64 s, .slice A gn gc, .slice B dn dc] 25)) [.slice AT tn tc, .int .i64 r.a, .int .i64 r.b, .int .i64 r.nc, .int .i64 r.dn, .int .i64 r.br, .int .i64 r.em, .int .i64 r.pa, .int .i64 r.sc] 30 (by first | exact Nat.le_refl _ | (simp; done) | (simp; omega))).below hb1; simpa using this)
  have zRB1 := RB.out.lt
  clear hb1
  obtain ⟨PB_1_0, PB_1_1, PB_1_2, PB_1_3⟩ := b4 PB.out
  have lPB_1 := PB.out.lt
  have nPB_1 : x1.heap.size ≠ w.heap.size := by omega
  have mPB_1 : w.heap.size ≠ x1.heap.size := by omega
  obtain ⟨RB_1_0, RB_1_1, RB_1_2, RB_1_3, RB_1_4, RB_1_5, RB_1_6, RB_1_7, RB_1_8⟩ := b9 RB.out
  have lRB_1 := RB.out.lt
  have nRB_1 : x1.heap.size ≠ w.heap.size + 1 := by omega
  have mRB_1 : w.heap.size + 1 ≠ x1.heap.size := by omega
  go_wp2_with fail
  refine (Brief_is nm s G D A B gn gc dn dc sb true N 0 _ hz hgn hgl hdn hdl (Lib.hid (hG.out.below (by (repeat (first | (with_reducible refine Below.drew ?_) | (with_reducible refine below_drewN ?_ _) | (with_reducible refine Below.alloc ?_ (by first | omega | (simp; done) | (simp; omega) | (simp at *; omega)) _) | (with_reducible refine Below.setCell ?_ (by first | omega | (simp; done) | (simp; omega) | (simp at *; omega)) _) | (with_reducible exact Below.refl _ _) | (with_reducible assumption) | (with_reducible refine Below.trans ?_ (Below.mono (by assumption) (by first | omega | (simp; done) | (simp; omega) | (simp at *; omega))))))))) (Lib.hid (hD.out.below (by (repeat (first | (with_reducible refine Below.drew ?_) | (with_reducible refine below_drewN ?_ _) | (with_reducible refine Below.alloc ?_ (by first | omega | (simp; done) | (simp; omega) | (simp at *; omega)) _) | (with_reducible refine Below.setCell ?_ (by first | omega | (simp; done) | (simp; omega) | (simp at *; omega)) _) | (with_reducible exact Below.refl _ _) | (with_reducible assumption) | (with_reducible refine Below.trans ?_ (Below.mono (by assumption) (by first | omega | (simp; done) | (simp; omega) | (simp at *; omega))))))))) hS hE0 hb).mono ?_
  rintro e x2 ⟨rfl, hb2⟩
  have hc2 : Below x1.heap.size x1 x2 := hb2
  have hB2 : Below w.heap.size w x2 := hB1.trans (hc2.mono hB1.size)
  have zu2 := hB2.size
  replace PB := Lib.hid (PB.out.below hc2)
  replace RB := Lib.hid (RB.out.below hc2)
  clear PB_1_0 PB_1_1 PB_1_2 PB_1_3 lPB_1 nPB_1 mPB_1 RB_1_0 RB_1_1 RB_1_2 RB_1_3 RB_1_4 RB_1_5 RB_1_6 RB_1_7 RB_1_8 lRB_1 nRB_1 mRB_1
  clear hb2 hB1 zu1 hc1
  obtain ⟨PB_2_0, PB_2_1, PB_2_2, PB_2_3⟩ := b4 PB.out
  have lPB_2 := PB.out.lt
  have nPB_2 : x2.heap.size ≠ w.heap.size := by omega
  have mPB_2 : w.heap.size ≠ x2.heap.size := by omega
  obtain ⟨RB_2_0, RB_2_1, RB_2_2, RB_2_3, RB_2_4, RB_2_5, RB_2_6, RB_2_7, RB_2_8⟩ := b9 RB.out
  have lRB_2 := RB.out.lt
  have nRB_2 : x2.heap.size ≠ w.heap.size + 1 := by omega
  have mRB_2 : w.heap.size + 1 ≠ x2.heap.size := by omega
  go_wp2_with fail
  refine (few_is r AT tn tc true _ htl hF).mono ?_
  rintro e x3 ⟨rfl, hb3⟩
  have hc3 : Below x2.heap.size x2 x3 := hb3
  have hB3 : Below w.heap.size w x3 := hB2.trans (hc3.mono hB2.size)
  have zu3 := hB3.size
  replace PB := Lib.hid (PB.out.below hc3)
  replace RB := Lib.hid (RB.out.below hc3)
  clear PB_2_0 PB_2_1 PB_2_2 PB_2_3 lPB_2 nPB_2 mPB_2 RB_2_0 RB_2_1 RB_2_2 RB_2_3 RB_2_4 RB_2_5 RB_2_6 RB_2_7 RB_2_8 lRB_2 nRB_2 mRB_2
  clear hb3 hB2 zu2 hc2
  obtain ⟨PB_3_0, PB_3_1, PB_3_2, PB_3_3⟩ := b4 PB.out
  have lPB_3 := PB.out.lt
  have nPB_3 : x3.heap.size ≠ w.heap.size := by omega
  have mPB_3 : w.heap.size ≠ x3.heap.size := by omega
  obtain ⟨RB_3_0, RB_3_1, RB_3_2, RB_3_3, RB_3_4, RB_3_5, RB_3_6, RB_3_7, RB_3_8⟩ := b9 RB.out
  have lRB_3 := RB.out.lt
  have nRB_3 : x3.heap.size ≠ w.heap.size + 1 := by omega
  have mRB_3 : w.heap.size + 1 ≠ x3.heap.size := by omega
  go_upto_region 5 with (fail)
  have HS : Hid (∀ y, Below x3.heap.size x3 y → y.cell? ⟨w.heap.size, 0, none⟩ = some (.string nm) ∧ y.cell? ⟨w.heap.size, 1, none⟩ = some (.int .i64 s) ∧ y.cell? ⟨w.heap.size, 2, none⟩ = some (.slice A gn gc) ∧ y.cell? ⟨w.heap.size, 3, none⟩ = some (.slice B dn dc) ∧ y.cell? ⟨w.heap.size + 1, 0, none⟩ = some (.slice AT tn tc) ∧ y.cell? ⟨w.heap.size + 1, 1, none⟩ = some (.int .i64 r.a) ∧ y.cell? ⟨w.heap.size + 1, 2, none⟩ = some (.int .i64 r.b) ∧ y.cell? ⟨w.heap.size + 1, 3, none⟩ = some (.int .i64 r.nc) ∧ y.cell? ⟨w.heap.size + 1, 4, none⟩ = some (.int .i64 r.dn) ∧ y.cell? ⟨w.heap.size + 1, 5, none⟩ = some (.int .i64 r.br) ∧ y.cell? ⟨w.heap.size + 1, 6, none⟩ = some (.int .i64 r.em) ∧ y.cell? ⟨w.heap.size + 1, 7, none⟩ = some (.int .i64 r.pa) ∧ y.cell? ⟨w.heap.size + 1, 8, none⟩ = some (.int .i64 r.sc)) := Lib.hid fun y hy => ⟨(hy.cell (p := ⟨w.heap.size, 0, none⟩) lPB_3).trans PB_3_0, (hy.cell (p := ⟨w.heap.size, 1, none⟩) lPB_3).trans PB_3_1, (hy.cell (p := ⟨w.heap.size, 2, none⟩) lPB_3).trans PB_3_2, (hy.cell (p := ⟨w.heap.size, 3, none⟩) lPB_3).trans PB_3_3, (hy.cell (p := ⟨w.heap.size + 1, 0, none⟩) lRB_3).trans RB_3_0, (hy.cell (p := ⟨w.heap.size + 1, 1, none⟩) lRB_3).trans RB_3_1, (hy.cell (p := ⟨w.heap.size + 1, 2, none⟩) lRB_3).trans RB_3_2, (hy.cell (p := ⟨w.heap.size + 1, 3, none⟩) lRB_3).trans RB_3_3, (hy.cell (p := ⟨w.heap.size + 1, 4, none⟩) lRB_3).trans RB_3_4, (hy.cell (p := ⟨w.heap.size + 1, 5, none⟩) lRB_3).trans RB_3_5, (hy.cell (p := ⟨w.heap.size + 1, 6, none⟩) lRB_3).trans RB_3_6, (hy.cell (p := ⟨w.heap.size + 1, 7, none⟩) lRB_3).trans RB_3_7, (hy.cell (p := ⟨w.heap.size + 1, 8, none⟩) lRB_3).trans RB_3_8⟩
  refine wp_region_held_drew (S := (fun w' => w'.cell? ⟨w.heap.size, 0, none⟩ = some (.string nm) ∧ w'.cell? ⟨w.heap.size, 1, none⟩ = some (.int .i64 s) ∧ w'.cell? ⟨w.heap.size, 2, none⟩ = some (.slice A gn gc) ∧ w'.cell? ⟨w.heap.size, 3, none⟩ = some (.slice B dn dc) ∧ w'.cell? ⟨w.heap.size + 1, 0, none⟩ = some (.slice AT tn tc) ∧ w'.cell? ⟨w.heap.size + 1, 1, none⟩ = some (.int .i64 r.a) ∧ w'.cell? ⟨w.heap.size + 1, 2, none⟩ = some (.int .i64 r.b) ∧ w'.cell? ⟨w.heap.size + 1, 3, none⟩ = some (.int .i64 r.nc) ∧ w'.cell? ⟨w.heap.size + 1, 4, none⟩ = some (.int .i64 r.dn) ∧ w'.cell? ⟨w.heap.size + 1, 5, none⟩ = some (.int .i64 r.br) ∧ w'.cell? ⟨w.heap.size + 1, 6, none⟩ = some (.int .i64 r.em) ∧ w'.cell? ⟨w.heap.size + 1, 7, none⟩ = some (.int .i64 r.pa) ∧ w'.cell? ⟨w.heap.size + 1, 8, none⟩ = some (.int .i64 r.sc))) (by kernel_rfl) (HS.out _ (Below.refl _ _).drew) (fun hHeld => ?_)
  have hT0 : Below x3.heap.size x3 x3.drew := (Below.refl _ _).drew
  generalize hdr : x3.drew = y3v0 at *
  clear hdr
  refine tkH 0 ⟨some 29, _, _, _, _, _⟩ ?_ rfl ?_ (by assumption) ?_
  rotate_left
  · (intro w hSw; (try dsimp only at hSw); go_simp; all_goals with_reducible rfl)
  try simp only [Act.put, sA, sB, sC]
  refine tkH 2 ⟨some 31, _, _, _, _, _⟩ ?_ rfl ?_ (by assumption) ?_
  rotate_left
  · (intro w hSw; (try dsimp only at hSw); go_simp; all_goals with_reducible rfl)
  try simp only [Act.put, sA, sB, sC]
  refine tkH 4 ⟨some 33, _, _, _, _, _⟩ ?_ rfl ?_ (by assumption) ?_
  rotate_left
  · (intro w hSw; (try dsimp only at hSw); go_simp; all_goals with_reducible rfl)
  try simp only [Act.put, sA, sB, sC]
  refine wpAnyH_ready (rs := [1]) (by kernel_rfl) (by simp) ?_
  refine AllReadyH.cons rfl (fun K hK => ?_) (AllReadyH.nil)
  go_simp
  refine (copyP_is nm s G D A B gn gc dn dc _ hgn hdn hg6 hd6 (Lib.hid (hG.out.below (hB3.trans (hT0.mono hB3.size)))) (Lib.hid (hD.out.below (hB3.trans (hT0.mono hB3.size)))) CG CD).mono ?_
  rintro e y3v1 ⟨A1, ca1, B1, cb1, rfl, hsg, hsd, hna, hnb, hby3v0⟩
  have hT1 : Below x3.heap.size x3 y3v1 := hT0.trans (hby3v0.mono hT0.size)
  have HG1 := Lib.hid hsg
  have HD1 := Lib.hid hsd
  clear hsg hsd hna hnb
  clear hby3v0
  go_wp2_with fail
  refine hK.out _ _ (HS.out _ hT1) (fun hHeld => ?_)
  clear hK K
  try simp only [Act.put, sA, sB, sC]
  refine wpAnyH_ready (rs := [3]) (by kernel_rfl) (by simp) ?_
  refine AllReadyH.cons rfl (fun K hK => ?_) (AllReadyH.nil)
  go_simp
  refine (copyR_is T r AT tn tc _ htn ht6 (Lib.hid (hT.out.below (hB3.trans (hT1.mono hB3.size)))) CT).mono ?_
  rintro e y3v2 ⟨AT1, ct1, rfl, hst, hby3v1⟩
  have hT2 : Below x3.heap.size x3 y3v2 := hT1.trans (hby3v1.mono hT1.size)
  replace HG1 := Lib.hid (HG1.out.below hby3v1)
  replace HD1 := Lib.hid (HD1.out.below hby3v1)
  have HT1 := Lib.hid hst
  clear hst
  clear hby3v1
  go_wp2_with fail
  refine hK.out _ _ (HS.out _ hT2) (fun hHeld => ?_)
  clear hK K
  try simp only [Act.put, sA, sB, sC]
  refine wpAnyH_ready (rs := [5]) (by kernel_rfl) (by simp) ?_
  refine AllReadyH.cons rfl (fun K hK => ?_) (AllReadyH.nil)
  go_simp
  refine (copyIn_is L C cc an _ han ha6 (Lib.hid (hC.out.below (hB3.trans (hT2.mono hB3.size)))) CA).mono ?_
  rintro e y3v3 ⟨C1, cc1, rfl, hsc, hnc, hnd, hby3v2⟩
  have hT3 : Below x3.heap.size x3 y3v3 := hT2.trans (hby3v2.mono hT2.size)
  replace HG1 := Lib.hid (HG1.out.below hby3v2)
  replace HD1 := Lib.hid (HD1.out.below hby3v2)
  replace HT1 := Lib.hid (HT1.out.below hby3v2)
  have HC1 := Lib.hid hsc
  clear hsc hnc hnd
  clear hby3v2
  go_wp2_with fail
  refine hK.out _ _ (HS.out _ hT3) (fun hHeld => ?_)
  clear hK K
  try simp only [Act.put, sA, sB, sC]
  refine wpAnyH_ready (rs := [6]) (by kernel_rfl) (by simp) ?_
  refine AllReadyH.cons rfl (fun K hK => ?_) (AllReadyH.nil)
  go_simp
  refine (Survives_bad nm s G D A1 B1 gn ca1 dn cb1 T r AT1 tn ct1 L C1 an cc1 N 0 0 E _ hz hgn hgl hdn hdl HG1 HD1 htn htl HT1 han ha6 HC1 hE0 hE1 hE h1).mono ?_
  rintro e y3v4 ⟨rfl, hby3v3⟩
  have hT4 : Below x3.heap.size x3 y3v4 := hT3.trans (hby3v3.mono hT3.size)
  replace HG1 := Lib.hid (HG1.out.below hby3v3)
  replace HD1 := Lib.hid (HD1.out.below hby3v3)
  replace HT1 := Lib.hid (HT1.out.below hby3v3)
  replace HC1 := Lib.hid (HC1.out.below hby3v3)
  clear hby3v3
  go_wp2_with fail
  refine hK.out _ _ (HS.out _ hT4) (fun hHeld => ?_)
  clear hK K
  try simp only [Act.put, sA, sB, sC]
  refine tkH 7 ⟨some 28, _, _, _, _, _⟩ ?_ rfl ?_ (by assumption) ?_
  rotate_left
  · (intro w hSw; (try dsimp only at hSw); go_simp; all_goals with_reducible rfl)
  try simp only [Act.put, sA, sB, sC]
  refine tkH 8 ⟨some 36, _, _, _, _, _⟩ ?_ rfl ?_ (by assumption) ?_
  rotate_left
  · (intro w hSw; (try dsimp only at hSw); go_simp; all_goals with_reducible rfl)
  try simp only [Act.put, sA, sB, sC]
  refine tkH 9 ⟨some 37, _, _, _, _, _⟩ ?_ rfl ?_ (by assumption) ?_
  rotate_left
  · (intro w hSw; (try dsimp only at hSw); go_simp; all_goals with_reducible rfl)
  try simp only [Act.put, sA, sB, sC]
  refine tkH 10 ⟨some 7, _, _, _, _, _⟩ ?_ rfl ?_ (by assumption) ?_
  rotate_left
  · (intro w hSw; (try dsimp only at hSw); go_simp; all_goals with_reducible rfl)
  try simp only [Act.put, sA, sB, sC]
  refine tkH 11 ⟨some 8, _, _, _, _, _⟩ ?_ rfl ?_ (by assumption) ?_
  rotate_left
  · (intro w hSw; (try dsimp only at hSw); go_simp; all_goals with_reducible rfl)
  try simp only [Act.put, sA, sB, sC]
  refine wpAnyH_done (by kernel_rfl) ?_ _
  have hc4 : Below x3.heap.size x3 y3v4 := hT4
  have hB4 : Below w.heap.size w y3v4 := hB3.trans (hc4.mono hB3.size)
  have zu4 := hB4.size
  replace PB := Lib.hid (PB.out.below hc4)
  replace RB := Lib.hid (RB.out.below hc4)
  clear PB_3_0 PB_3_1 PB_3_2 PB_3_3 lPB_3 nPB_3 mPB_3 RB_3_0 RB_3_1 RB_3_2 RB_3_3 RB_3_4 RB_3_5 RB_3_6 RB_3_7 RB_3_8 lRB_3 nRB_3 mRB_3
  clear HS hHeld hT0 hT1 hT2 hT3 hT4 hB3 zu3 hc3
  obtain ⟨PB_4_0, PB_4_1, PB_4_2, PB_4_3⟩ := b4 PB.out
  have lPB_4 := PB.out.lt
  have nPB_4 : y3v4.heap.size ≠ w.heap.size := by omega
  have mPB_4 : w.heap.size ≠ y3v4.heap.size := by omega
  obtain ⟨RB_4_0, RB_4_1, RB_4_2, RB_4_3, RB_4_4, RB_4_5, RB_4_6, RB_4_7, RB_4_8⟩ := b9 RB.out
  have lRB_4 := RB.out.lt
  have nRB_4 : y3v4.heap.size ≠ w.heap.size + 1 := by omega
  have mRB_4 : w.heap.size + 1 ≠ y3v4.heap.size := by omega
  clear HG1
  clear HD1
  clear HT1
  clear HC1
  go_upto_region 6 with (fail)
  have HS : Hid (∀ y, Below y3v4.heap.size y3v4 y → y.cell? ⟨w.heap.size, 0, none⟩ = some (.string nm) ∧ y.cell? ⟨w.heap.size, 1, none⟩ = some (.int .i64 s) ∧ y.cell? ⟨w.heap.size, 2, none⟩ = some (.slice A gn gc) ∧ y.cell? ⟨w.heap.size, 3, none⟩ = some (.slice B dn dc) ∧ y.cell? ⟨w.heap.size + 1, 0, none⟩ = some (.slice AT tn tc) ∧ y.cell? ⟨w.heap.size + 1, 1, none⟩ = some (.int .i64 r.a) ∧ y.cell? ⟨w.heap.size + 1, 2, none⟩ = some (.int .i64 r.b) ∧ y.cell? ⟨w.heap.size + 1, 3, none⟩ = some (.int .i64 r.nc) ∧ y.cell? ⟨w.heap.size + 1, 4, none⟩ = some (.int .i64 r.dn) ∧ y.cell? ⟨w.heap.size + 1, 5, none⟩ = some (.int .i64 r.br) ∧ y.cell? ⟨w.heap.size + 1, 6, none⟩ = some (.int .i64 r.em) ∧ y.cell? ⟨w.heap.size + 1, 7, none⟩ = some (.int .i64 r.pa) ∧ y.cell? ⟨w.heap.size + 1, 8, none⟩ = some (.int .i64 r.sc)) := Lib.hid fun y hy => ⟨(hy.cell (p := ⟨w.heap.size, 0, none⟩) lPB_4).trans PB_4_0, (hy.cell (p := ⟨w.heap.size, 1, none⟩) lPB_4).trans PB_4_1, (hy.cell (p := ⟨w.heap.size, 2, none⟩) lPB_4).trans PB_4_2, (hy.cell (p := ⟨w.heap.size, 3, none⟩) lPB_4).trans PB_4_3, (hy.cell (p := ⟨w.heap.size + 1, 0, none⟩) lRB_4).trans RB_4_0, (hy.cell (p := ⟨w.heap.size + 1, 1, none⟩) lRB_4).trans RB_4_1, (hy.cell (p := ⟨w.heap.size + 1, 2, none⟩) lRB_4).trans RB_4_2, (hy.cell (p := ⟨w.heap.size + 1, 3, none⟩) lRB_4).trans RB_4_3, (hy.cell (p := ⟨w.heap.size + 1, 4, none⟩) lRB_4).trans RB_4_4, (hy.cell (p := ⟨w.heap.size + 1, 5, none⟩) lRB_4).trans RB_4_5, (hy.cell (p := ⟨w.heap.size + 1, 6, none⟩) lRB_4).trans RB_4_6, (hy.cell (p := ⟨w.heap.size + 1, 7, none⟩) lRB_4).trans RB_4_7, (hy.cell (p := ⟨w.heap.size + 1, 8, none⟩) lRB_4).trans RB_4_8⟩
  refine wp_region_held_drew (S := (fun w' => w'.cell? ⟨w.heap.size, 0, none⟩ = some (.string nm) ∧ w'.cell? ⟨w.heap.size, 1, none⟩ = some (.int .i64 s) ∧ w'.cell? ⟨w.heap.size, 2, none⟩ = some (.slice A gn gc) ∧ w'.cell? ⟨w.heap.size, 3, none⟩ = some (.slice B dn dc) ∧ w'.cell? ⟨w.heap.size + 1, 0, none⟩ = some (.slice AT tn tc) ∧ w'.cell? ⟨w.heap.size + 1, 1, none⟩ = some (.int .i64 r.a) ∧ w'.cell? ⟨w.heap.size + 1, 2, none⟩ = some (.int .i64 r.b) ∧ w'.cell? ⟨w.heap.size + 1, 3, none⟩ = some (.int .i64 r.nc) ∧ w'.cell? ⟨w.heap.size + 1, 4, none⟩ = some (.int .i64 r.dn) ∧ w'.cell? ⟨w.heap.size + 1, 5, none⟩ = some (.int .i64 r.br) ∧ w'.cell? ⟨w.heap.size + 1, 6, none⟩ = some (.int .i64 r.em) ∧ w'.cell? ⟨w.heap.size + 1, 7, none⟩ = some (.int .i64 r.pa) ∧ w'.cell? ⟨w.heap.size + 1, 8, none⟩ = some (.int .i64 r.sc))) (by kernel_rfl) (HS.out _ (Below.refl _ _).drew) (fun hHeld => ?_)
  have hT0 : Below y3v4.heap.size y3v4 y3v4.drew := (Below.refl _ _).drew
  generalize hdr : y3v4.drew = y4v0 at *
  clear hdr
  refine tkH 0 ⟨some 39, _, _, _, _, _⟩ ?_ rfl ?_ (by assumption) ?_
  rotate_left
  · (intro w hSw; (try dsimp only at hSw); go_simp; all_goals with_reducible rfl)
  try simp only [Act.put, sA, sB, sC]
  refine tkH 2 ⟨some 41, _, _, _, _, _⟩ ?_ rfl ?_ (by assumption) ?_
  rotate_left
  · (intro w hSw; (try dsimp only at hSw); go_simp; all_goals with_reducible rfl)
  try simp only [Act.put, sA, sB, sC]
  refine tkH 4 ⟨some 43, _, _, _, _, _⟩ ?_ rfl ?_ (by assumption) ?_
  rotate_left
  · (intro w hSw; (try dsimp only at hSw); go_simp; all_goals with_reducible rfl)
  try simp only [Act.put, sA, sB, sC]
  refine wpAnyH_ready (rs := [1]) (by kernel_rfl) (by simp) ?_
  refine AllReadyH.cons rfl (fun K hK => ?_) (AllReadyH.nil)
  go_simp
  refine (copyP_is nm s G D A B gn gc dn dc _ hgn hdn hg6 hd6 (Lib.hid (hG.out.below (hB4.trans (hT0.mono hB4.size)))) (Lib.hid (hD.out.below (hB4.trans (hT0.mono hB4.size)))) CG CD).mono ?_
  rintro e y4v1 ⟨A2, ca2, B2, cb2, rfl, hsg, hsd, hna, hnb, hby4v0⟩
  have hT1 : Below y3v4.heap.size y3v4 y4v1 := hT0.trans (hby4v0.mono hT0.size)
  have HG2 := Lib.hid hsg
  have HD2 := Lib.hid hsd
  clear hsg hsd hna hnb
  clear hby4v0
  go_wp2_with fail
  refine hK.out _ _ (HS.out _ hT1) (fun hHeld => ?_)
  clear hK K
  try simp only [Act.put, sA, sB, sC]
  refine wpAnyH_ready (rs := [3]) (by kernel_rfl) (by simp) ?_
  refine AllReadyH.cons rfl (fun K hK => ?_) (AllReadyH.nil)
  go_simp
  refine (copyR_is T r AT tn tc _ htn ht6 (Lib.hid (hT.out.below (hB4.trans (hT1.mono hB4.size)))) CT).mono ?_
  rintro e y4v2 ⟨AT2, ct2, rfl, hst, hby4v1⟩
  have hT2 : Below y3v4.heap.size y3v4 y4v2 := hT1.trans (hby4v1.mono hT1.size)
  replace HG2 := Lib.hid (HG2.out.below hby4v1)
  replace HD2 := Lib.hid (HD2.out.below hby4v1)
  have HT2 := Lib.hid hst
  clear hst
  clear hby4v1
  go_wp2_with fail
  refine hK.out _ _ (HS.out _ hT2) (fun hHeld => ?_)
  clear hK K
  try simp only [Act.put, sA, sB, sC]
  refine wpAnyH_ready (rs := [5]) (by kernel_rfl) (by simp) ?_
  refine AllReadyH.cons rfl (fun K hK => ?_) (AllReadyH.nil)
  go_simp
  refine (copyIn_is L C cc an _ han ha6 (Lib.hid (hC.out.below (hB4.trans (hT2.mono hB4.size)))) CA).mono ?_
  rintro e y4v3 ⟨C2, cc2, rfl, hsc, hnc, hnd, hby4v2⟩
  have hT3 : Below y3v4.heap.size y3v4 y4v3 := hT2.trans (hby4v2.mono hT2.size)
  replace HG2 := Lib.hid (HG2.out.below hby4v2)
  replace HD2 := Lib.hid (HD2.out.below hby4v2)
  replace HT2 := Lib.hid (HT2.out.below hby4v2)
  have HC2 := Lib.hid hsc
  clear hsc hnc hnd
  clear hby4v2
  go_wp2_with fail
  refine hK.out _ _ (HS.out _ hT3) (fun hHeld => ?_)
  clear hK K
  try simp only [Act.put, sA, sB, sC]
  refine wpAnyH_ready (rs := [6]) (by kernel_rfl) (by simp) ?_
  refine AllReadyH.cons rfl (fun K hK => ?_) (AllReadyH.nil)
  go_simp
  refine (LastTurn_bad nm s G D A2 B2 gn ca2 dn cb2 T r AT2 tn ct2 L C2 an cc2 N 0 0 E _ hz hgn hgl hdn hdl HG2 HD2 htn htl HT2 han ha6 HC2 hE0 hE1 hE h1).mono ?_
  rintro e y4v4 ⟨rfl, hby4v3⟩
  have hT4 : Below y3v4.heap.size y3v4 y4v4 := hT3.trans (hby4v3.mono hT3.size)
  replace HG2 := Lib.hid (HG2.out.below hby4v3)
  replace HD2 := Lib.hid (HD2.out.below hby4v3)
  replace HT2 := Lib.hid (HT2.out.below hby4v3)
  replace HC2 := Lib.hid (HC2.out.below hby4v3)
  clear hby4v3
  go_wp2_with fail
  refine hK.out _ _ (HS.out _ hT4) (fun hHeld => ?_)
  clear hK K
  try simp only [Act.put, sA, sB, sC]
  refine tkH 7 ⟨some 38, _, _, _, _, _⟩ ?_ rfl ?_ (by assumption) ?_
  rotate_left
  · (intro w hSw; (try dsimp only at hSw); go_simp; all_goals with_reducible rfl)
  try simp only [Act.put, sA, sB, sC]
  refine tkH 8 ⟨some 46, _, _, _, _, _⟩ ?_ rfl ?_ (by assumption) ?_
  rotate_left
  · (intro w hSw; (try dsimp only at hSw); go_simp; all_goals with_reducible rfl)
  try simp only [Act.put, sA, sB, sC]
  refine tkH 9 ⟨some 47, _, _, _, _, _⟩ ?_ rfl ?_ (by assumption) ?_
  rotate_left
  · (intro w hSw; (try dsimp only at hSw); go_simp; all_goals with_reducible rfl)
  try simp only [Act.put, sA, sB, sC]
  refine tkH 10 ⟨some 9, _, _, _, _, _⟩ ?_ rfl ?_ (by assumption) ?_
  rotate_left
  · (intro w hSw; (try dsimp only at hSw); go_simp; all_goals with_reducible rfl)
  try simp only [Act.put, sA, sB, sC]
  refine tkH 11 ⟨some 10, _, _, _, _, _⟩ ?_ rfl ?_ (by assumption) ?_
  rotate_left
  · (intro w hSw; (try dsimp only at hSw); go_simp; all_goals with_reducible rfl)
  try simp only [Act.put, sA, sB, sC]
  refine wpAnyH_done (by kernel_rfl) ?_ _
  have hc5 : Below y3v4.heap.size y3v4 y4v4 := hT4
  have hB5 : Below w.heap.size w y4v4 := hB4.trans (hc5.mono hB4.size)
  have zu5 := hB5.size
  replace PB := Lib.hid (PB.out.below hc5)
  replace RB := Lib.hid (RB.out.below hc5)
  clear PB_4_0 PB_4_1 PB_4_2 PB_4_3 lPB_4 nPB_4 mPB_4 RB_4_0 RB_4_1 RB_4_2 RB_4_3 RB_4_4 RB_4_5 RB_4_6 RB_4_7 RB_4_8 lRB_4 nRB_4 mRB_4
  clear HS hHeld hT0 hT1 hT2 hT3 hT4 hB4 zu4 hc4
  obtain ⟨PB_5_0, PB_5_1, PB_5_2, PB_5_3⟩ := b4 PB.out
  have lPB_5 := PB.out.lt
  have nPB_5 : y4v4.heap.size ≠ w.heap.size := by omega
  have mPB_5 : w.heap.size ≠ y4v4.heap.size := by omega
  obtain ⟨RB_5_0, RB_5_1, RB_5_2, RB_5_3, RB_5_4, RB_5_5, RB_5_6, RB_5_7, RB_5_8⟩ := b9 RB.out
  have lRB_5 := RB.out.lt
  have nRB_5 : y4v4.heap.size ≠ w.heap.size + 1 := by omega
  have mRB_5 : w.heap.size + 1 ≠ y4v4.heap.size := by omega
  clear HG2
  clear HD2
  clear HT2
  clear HC2
  go_wp2_with fail
  refine (refBoth_any nm s G D A B gn gc dn dc T r AT tn tc N 0 0 0 _ hz6 hgn hgl hdn hdl (Lib.hid (hG.out.below (by (repeat (first | (with_reducible refine Below.drew ?_) | (with_reducible refine below_drewN ?_ _) | (with_reducible refine Below.alloc ?_ (by first | omega | (simp; done) | (simp; omega) | (simp at *; omega)) _) | (with_reducible refine Below.setCell ?_ (by first | omega | (simp; done) | (simp; omega) | (simp at *; omega)) _) | (with_reducible exact Below.refl _ _) | (with_reducible assumption) | (with_reducible refine Below.trans ?_ (Below.mono (by assumption) (by first | omega | (simp; done) | (simp; omega) | (simp at *; omega))))))))) (Lib.hid (hD.out.below (by (repeat (first | (with_reducible refine Below.drew ?_) | (with_reducible refine below_drewN ?_ _) | (with_reducible refine Below.alloc ?_ (by first | omega | (simp; done) | (simp; omega) | (simp at *; omega)) _) | (with_reducible refine Below.setCell ?_ (by first | omega | (simp; done) | (simp; omega) | (simp at *; omega)) _) | (with_reducible exact Below.refl _ _) | (with_reducible assumption) | (with_reducible refine Below.trans ?_ (Below.mono (by assumption) (by first | omega | (simp; done) | (simp; omega) | (simp at *; omega))))))))) hE0 htn htl (Lib.hid (hT.out.below (by (repeat (first | (with_reducible refine Below.drew ?_) | (with_reducible refine below_drewN ?_ _) | (with_reducible refine Below.alloc ?_ (by first | omega | (simp; done) | (simp; omega) | (simp at *; omega)) _) | (with_reducible refine Below.setCell ?_ (by first | omega | (simp; done) | (simp; omega) | (simp at *; omega)) _) | (with_reducible exact Below.refl _ _) | (with_reducible assumption) | (with_reducible refine Below.trans ?_ (Below.mono (by assumption) (by first | omega | (simp; done) | (simp; omega) | (simp at *; omega))))))))) hE1 hEB).mono ?_
  rintro e x6 ⟨rfl, hb6⟩
  have hc6 : Below y4v4.heap.size y4v4 x6 := hb6
  have hB6 : Below w.heap.size w x6 := hB5.trans (hc6.mono hB5.size)
  have zu6 := hB6.size
  replace PB := Lib.hid (PB.out.below hc6)
  replace RB := Lib.hid (RB.out.below hc6)
  clear PB_5_0 PB_5_1 PB_5_2 PB_5_3 lPB_5 nPB_5 mPB_5 RB_5_0 RB_5_1 RB_5_2 RB_5_3 RB_5_4 RB_5_5 RB_5_6 RB_5_7 RB_5_8 lRB_5 nRB_5 mRB_5
  clear hb6 hB5 zu5 hc5
  obtain ⟨PB_6_0, PB_6_1, PB_6_2, PB_6_3⟩ := b4 PB.out
  have lPB_6 := PB.out.lt
  have nPB_6 : x6.heap.size ≠ w.heap.size := by omega
  have mPB_6 : w.heap.size ≠ x6.heap.size := by omega
  obtain ⟨RB_6_0, RB_6_1, RB_6_2, RB_6_3, RB_6_4, RB_6_5, RB_6_6, RB_6_7, RB_6_8⟩ := b9 RB.out
  have lRB_6 := RB.out.lt
  have nRB_6 : x6.heap.size ≠ w.heap.size + 1 := by omega
  have mRB_6 : w.heap.size + 1 ≠ x6.heap.size := by omega
  go_wp2_with fail
  refine (refAmt_is nm s A B gn gc dn dc L C an cc E _ hgl han ha6 (Lib.hid (hC.out.below (by (repeat (first | (with_reducible refine Below.drew ?_) | (with_reducible refine below_drewN ?_ _) | (with_reducible refine Below.alloc ?_ (by first | omega | (simp; done) | (simp; omega) | (simp at *; omega)) _) | (with_reducible refine Below.setCell ?_ (by first | omega | (simp; done) | (simp; omega) | (simp at *; omega)) _) | (with_reducible exact Below.refl _ _) | (with_reducible assumption) | (with_reducible refine Below.trans ?_ (Below.mono (by assumption) (by first | omega | (simp; done) | (simp; omega) | (simp at *; omega))))))))) hEA).mono ?_
  rintro e x7 ⟨rfl, hb7⟩
  have hc7 : Below x6.heap.size x6 x7 := hb7
  have hB7 : Below w.heap.size w x7 := hB6.trans (hc7.mono hB6.size)
  have zu7 := hB7.size
  replace PB := Lib.hid (PB.out.below hc7)
  replace RB := Lib.hid (RB.out.below hc7)
  clear PB_6_0 PB_6_1 PB_6_2 PB_6_3 lPB_6 nPB_6 mPB_6 RB_6_0 RB_6_1 RB_6_2 RB_6_3 RB_6_4 RB_6_5 RB_6_6 RB_6_7 RB_6_8 lRB_6 nRB_6 mRB_6
  clear hb7 hB6 zu6 hc6
  obtain ⟨PB_7_0, PB_7_1, PB_7_2, PB_7_3⟩ := b4 PB.out
  have lPB_7 := PB.out.lt
  have nPB_7 : x7.heap.size ≠ w.heap.size := by omega
  have mPB_7 : w.heap.size ≠ x7.heap.size := by omega
  obtain ⟨RB_7_0, RB_7_1, RB_7_2, RB_7_3, RB_7_4, RB_7_5, RB_7_6, RB_7_7, RB_7_8⟩ := b9 RB.out
  have lRB_7 := RB.out.lt
  have nRB_7 : x7.heap.size ≠ w.heap.size + 1 := by omega
  have mRB_7 : w.heap.size + 1 ≠ x7.heap.size := by omega
  go_wp2
  go_ret
  exact ⟨rfl, hB7⟩
set_option maxRecDepth 100000 in
set_option maxHeartbeats 8000000 in
theorem sv_long (nm : ByteArray) (s : Int) (G : List Ga) (D : List Le) (A B : Option Addr) (gn gc dn dc : Nat) (T : List Ox) (r : Ru) (AT : Option Addr) (tn tc : Nat) (L : List Int) (C : Option Addr) (an cc : Nat) (sb : Bool) (N : Nat) (w : World) (hz : nm.size ≤ 9223372036854775807) (hgn : Hid (gn = G.length)) (hgl : gn ≤ 9223372036854775807) (hdn : Hid (dn = D.length)) (hdl : dn ≤ 9223372036854775807) (hG : Hid (SlRows gaV 2 w A G)) (hD : Hid (SlRows leV 3 w B D)) (CG : Hid (A = none → gn = 0 ∧ gc = 0)) (CD : Hid (B = none → dn = 0 ∧ dc = 0)) (htn : Hid (tn = T.length)) (htl : tn ≤ 9223372036854775807) (hT : Hid (SlRows oxV 2 w AT T)) (CT : Hid (AT = none → tn = 0 ∧ tc = 0)) (han : Hid (an = L.length)) (hal : an ≤ 9223372036854775807) (hC : Hid (SlRows inV 1 w C L)) (CA : Hid (C = none → an = 0 ∧ cc = 0)) (hS1 : Hid (shortB nm.size dn gn = true)) (hS : Hid (shortB nm.size dn gn = sb)) (hE0 : Hid (plnP nm s G D = (N, 0))) (hb : Hid (briefV sb 0 (secT D dn) = true)) (hF : Hid (fewB tn = true)) (ha : an ≤ 12) (hE1 : Hid (ruE T r = 0)) (hE : Hid (firE [0, 0, amE L gn, if 20000 < secT D dn then (8 : Int) else 0] = 8)) (hEB : Hid (firE [0, 0] = 0)) (hEA : Hid (amE L gn = 0)) (hF2 : Hid ((if 20000 < secT D dn then (8 : Int) else 0) = 8)) (hE3 : Hid (firE [0, 0, 8] = 8)) :
    Calls Tryz.prog 4 #[.agg #[.string nm, .int .i64 s, .slice A gn gc, .slice B dn dc], .agg #[.slice AT tn tc, .int .i64 r.a, .int .i64 r.b, .int .i64 r.nc, .int .i64 r.dn, .int .i64 r.br, .int .i64 r.em, .int .i64 r.pa, .int .i64 r.sc], .slice C an cc] w fun e w' => e = .returned (.bool true) ∧ Below w.heap.size w w' := by
  have h1 : ((8 : Int) != 0) = true := by decide
  have hsb := shortB_le hS1.out
  have hz6 : nm.size ≤ 1000000 := by omega
  have hg6 : gn ≤ 1000000 := by omega
  have hd6 : dn ≤ 1000000 := by omega
  have ht22 : tn ≤ 22 := fewB_le hF.out
  have ht6 : tn ≤ 1000000 := by omega
  have ha6 : an ≤ 1000000 := by omega
  have ha0 : ¬ (12 : Int) < (an : Int) := by omega
  go_enter Tryz.func4, Tryz.ntmps4
  go_wp2_with fail
  refine (awake_any _).mono ?_
  rintro e x1 ⟨rfl, hb1⟩
  have hc1 : Below w.heap.size w x1 := (((Below.refl _ _).alloc (by first | exact Nat.le_refl _ | (simp; done) | (simp; omega)) _).alloc (by first | exact Nat.le_refl _ | (simp; done) | (simp; omega)) _).trans (hb1.mono (by first | exact Nat.le_refl _ | (simp; done) | (simp; omega)))
  have hB1 : Below w.heap.size w x1 := hc1
  have zu1 := hB1.size
  have PB : Hid (BlkF x1 w.heap.size (w.heap.size) [.string nm, .int .i64 s, .slice A gn gc, .slice B dn dc]) := Lib.hid (((BlkF.made (B := w.heap.size) w [.string nm, .int .i64 s, .slice A gn gc, .slice B dn dc] 25 (by first | exact Nat.le_refl _ | (simp; done) | (simp; omega))).below ((Below.refl _ _).alloc (Nat.le_refl _) _)).below hb1)
  have zPB1 := PB.out.lt
  have RB : Hid (BlkF x1 w.heap.size (w.heap.size + 1) [.slice AT tn tc, .int .i64 r.a, .int .i64 r.b, .int .i64 r.nc, .int .i64 r.dn, .int .i64 r.br, .int .i64 r.em, .int .i64 r.pa, .int .i64 r.sc]) := Lib.hid (by have := (BlkF.made (B := w.heap.size) (w.alloc (.cells #[.string nm, .int .i64 s, .slice A gn gc, .slice B dn dc] 25)) [.slice AT tn tc, .int .i64 r.a, .int .i64 r.b, .int .i64 r.nc, .int .i64 r.dn, .int .i64 r.br, .int .i64 r.em, .int .i64 r.pa, .int .i64 r.sc] 30 (by first | exact Nat.le_refl _ | (simp; done) | (simp; omega))).below hb1; simpa using this)
  have zRB1 := RB.out.lt
  clear hb1
  obtain ⟨PB_1_0, PB_1_1, PB_1_2, PB_1_3⟩ := b4 PB.out
  have lPB_1 := PB.out.lt
  have nPB_1 : x1.heap.size ≠ w.heap.size := by omega
  have mPB_1 : w.heap.size ≠ x1.heap.size := by omega
  obtain ⟨RB_1_0, RB_1_1, RB_1_2, RB_1_3, RB_1_4, RB_1_5, RB_1_6, RB_1_7, RB_1_8⟩ := b9 RB.out
  have lRB_1 := RB.out.lt
  have nRB_1 : x1.heap.size ≠ w.heap.size + 1 := by omega
  have mRB_1 : w.heap.size + 1 ≠ x1.heap.size := by omega
  go_wp2_with fail
  refine (Brief_is nm s G D A B gn gc dn dc sb true N 0 _ hz hgn hgl hdn hdl (Lib.hid (hG.out.below (by (repeat (first | (with_reducible refine Below.drew ?_) | (with_reducible refine below_drewN ?_ _) | (with_reducible refine Below.alloc ?_ (by first | omega | (simp; done) | (simp; omega) | (simp at *; omega)) _) | (with_reducible refine Below.setCell ?_ (by first | omega | (simp; done) | (simp; omega) | (simp at *; omega)) _) | (with_reducible exact Below.refl _ _) | (with_reducible assumption) | (with_reducible refine Below.trans ?_ (Below.mono (by assumption) (by first | omega | (simp; done) | (simp; omega) | (simp at *; omega))))))))) (Lib.hid (hD.out.below (by (repeat (first | (with_reducible refine Below.drew ?_) | (with_reducible refine below_drewN ?_ _) | (with_reducible refine Below.alloc ?_ (by first | omega | (simp; done) | (simp; omega) | (simp at *; omega)) _) | (with_reducible refine Below.setCell ?_ (by first | omega | (simp; done) | (simp; omega) | (simp at *; omega)) _) | (with_reducible exact Below.refl _ _) | (with_reducible assumption) | (with_reducible refine Below.trans ?_ (Below.mono (by assumption) (by first | omega | (simp; done) | (simp; omega) | (simp at *; omega))))))))) hS hE0 hb).mono ?_
  rintro e x2 ⟨rfl, hb2⟩
  have hc2 : Below x1.heap.size x1 x2 := hb2
  have hB2 : Below w.heap.size w x2 := hB1.trans (hc2.mono hB1.size)
  have zu2 := hB2.size
  replace PB := Lib.hid (PB.out.below hc2)
  replace RB := Lib.hid (RB.out.below hc2)
  clear PB_1_0 PB_1_1 PB_1_2 PB_1_3 lPB_1 nPB_1 mPB_1 RB_1_0 RB_1_1 RB_1_2 RB_1_3 RB_1_4 RB_1_5 RB_1_6 RB_1_7 RB_1_8 lRB_1 nRB_1 mRB_1
  clear hb2 hB1 zu1 hc1
  obtain ⟨PB_2_0, PB_2_1, PB_2_2, PB_2_3⟩ := b4 PB.out
  have lPB_2 := PB.out.lt
  have nPB_2 : x2.heap.size ≠ w.heap.size := by omega
  have mPB_2 : w.heap.size ≠ x2.heap.size := by omega
  obtain ⟨RB_2_0, RB_2_1, RB_2_2, RB_2_3, RB_2_4, RB_2_5, RB_2_6, RB_2_7, RB_2_8⟩ := b9 RB.out
  have lRB_2 := RB.out.lt
  have nRB_2 : x2.heap.size ≠ w.heap.size + 1 := by omega
  have mRB_2 : w.heap.size + 1 ≠ x2.heap.size := by omega
  go_wp2_with fail
  refine (few_is r AT tn tc true _ htl hF).mono ?_
  rintro e x3 ⟨rfl, hb3⟩
  have hc3 : Below x2.heap.size x2 x3 := hb3
  have hB3 : Below w.heap.size w x3 := hB2.trans (hc3.mono hB2.size)
  have zu3 := hB3.size
  replace PB := Lib.hid (PB.out.below hc3)
  replace RB := Lib.hid (RB.out.below hc3)
  clear PB_2_0 PB_2_1 PB_2_2 PB_2_3 lPB_2 nPB_2 mPB_2 RB_2_0 RB_2_1 RB_2_2 RB_2_3 RB_2_4 RB_2_5 RB_2_6 RB_2_7 RB_2_8 lRB_2 nRB_2 mRB_2
  clear hb3 hB2 zu2 hc2
  obtain ⟨PB_3_0, PB_3_1, PB_3_2, PB_3_3⟩ := b4 PB.out
  have lPB_3 := PB.out.lt
  have nPB_3 : x3.heap.size ≠ w.heap.size := by omega
  have mPB_3 : w.heap.size ≠ x3.heap.size := by omega
  obtain ⟨RB_3_0, RB_3_1, RB_3_2, RB_3_3, RB_3_4, RB_3_5, RB_3_6, RB_3_7, RB_3_8⟩ := b9 RB.out
  have lRB_3 := RB.out.lt
  have nRB_3 : x3.heap.size ≠ w.heap.size + 1 := by omega
  have mRB_3 : w.heap.size + 1 ≠ x3.heap.size := by omega
  go_upto_region 5 with (fail)
  have HS : Hid (∀ y, Below x3.heap.size x3 y → y.cell? ⟨w.heap.size, 0, none⟩ = some (.string nm) ∧ y.cell? ⟨w.heap.size, 1, none⟩ = some (.int .i64 s) ∧ y.cell? ⟨w.heap.size, 2, none⟩ = some (.slice A gn gc) ∧ y.cell? ⟨w.heap.size, 3, none⟩ = some (.slice B dn dc) ∧ y.cell? ⟨w.heap.size + 1, 0, none⟩ = some (.slice AT tn tc) ∧ y.cell? ⟨w.heap.size + 1, 1, none⟩ = some (.int .i64 r.a) ∧ y.cell? ⟨w.heap.size + 1, 2, none⟩ = some (.int .i64 r.b) ∧ y.cell? ⟨w.heap.size + 1, 3, none⟩ = some (.int .i64 r.nc) ∧ y.cell? ⟨w.heap.size + 1, 4, none⟩ = some (.int .i64 r.dn) ∧ y.cell? ⟨w.heap.size + 1, 5, none⟩ = some (.int .i64 r.br) ∧ y.cell? ⟨w.heap.size + 1, 6, none⟩ = some (.int .i64 r.em) ∧ y.cell? ⟨w.heap.size + 1, 7, none⟩ = some (.int .i64 r.pa) ∧ y.cell? ⟨w.heap.size + 1, 8, none⟩ = some (.int .i64 r.sc)) := Lib.hid fun y hy => ⟨(hy.cell (p := ⟨w.heap.size, 0, none⟩) lPB_3).trans PB_3_0, (hy.cell (p := ⟨w.heap.size, 1, none⟩) lPB_3).trans PB_3_1, (hy.cell (p := ⟨w.heap.size, 2, none⟩) lPB_3).trans PB_3_2, (hy.cell (p := ⟨w.heap.size, 3, none⟩) lPB_3).trans PB_3_3, (hy.cell (p := ⟨w.heap.size + 1, 0, none⟩) lRB_3).trans RB_3_0, (hy.cell (p := ⟨w.heap.size + 1, 1, none⟩) lRB_3).trans RB_3_1, (hy.cell (p := ⟨w.heap.size + 1, 2, none⟩) lRB_3).trans RB_3_2, (hy.cell (p := ⟨w.heap.size + 1, 3, none⟩) lRB_3).trans RB_3_3, (hy.cell (p := ⟨w.heap.size + 1, 4, none⟩) lRB_3).trans RB_3_4, (hy.cell (p := ⟨w.heap.size + 1, 5, none⟩) lRB_3).trans RB_3_5, (hy.cell (p := ⟨w.heap.size + 1, 6, none⟩) lRB_3).trans RB_3_6, (hy.cell (p := ⟨w.heap.size + 1, 7, none⟩) lRB_3).trans RB_3_7, (hy.cell (p := ⟨w.heap.size + 1, 8, none⟩) lRB_3).trans RB_3_8⟩
  refine wp_region_held_drew (S := (fun w' => w'.cell? ⟨w.heap.size, 0, none⟩ = some (.string nm) ∧ w'.cell? ⟨w.heap.size, 1, none⟩ = some (.int .i64 s) ∧ w'.cell? ⟨w.heap.size, 2, none⟩ = some (.slice A gn gc) ∧ w'.cell? ⟨w.heap.size, 3, none⟩ = some (.slice B dn dc) ∧ w'.cell? ⟨w.heap.size + 1, 0, none⟩ = some (.slice AT tn tc) ∧ w'.cell? ⟨w.heap.size + 1, 1, none⟩ = some (.int .i64 r.a) ∧ w'.cell? ⟨w.heap.size + 1, 2, none⟩ = some (.int .i64 r.b) ∧ w'.cell? ⟨w.heap.size + 1, 3, none⟩ = some (.int .i64 r.nc) ∧ w'.cell? ⟨w.heap.size + 1, 4, none⟩ = some (.int .i64 r.dn) ∧ w'.cell? ⟨w.heap.size + 1, 5, none⟩ = some (.int .i64 r.br) ∧ w'.cell? ⟨w.heap.size + 1, 6, none⟩ = some (.int .i64 r.em) ∧ w'.cell? ⟨w.heap.size + 1, 7, none⟩ = some (.int .i64 r.pa) ∧ w'.cell? ⟨w.heap.size + 1, 8, none⟩ = some (.int .i64 r.sc))) (by kernel_rfl) (HS.out _ (Below.refl _ _).drew) (fun hHeld => ?_)
  have hT0 : Below x3.heap.size x3 x3.drew := (Below.refl _ _).drew
  generalize hdr : x3.drew = y3v0 at *
  clear hdr
  refine tkH 0 ⟨some 29, _, _, _, _, _⟩ ?_ rfl ?_ (by assumption) ?_
  rotate_left
  · (intro w hSw; (try dsimp only at hSw); go_simp; all_goals with_reducible rfl)
  try simp only [Act.put, sA, sB, sC]
  refine tkH 2 ⟨some 31, _, _, _, _, _⟩ ?_ rfl ?_ (by assumption) ?_
  rotate_left
  · (intro w hSw; (try dsimp only at hSw); go_simp; all_goals with_reducible rfl)
  try simp only [Act.put, sA, sB, sC]
  refine tkH 4 ⟨some 33, _, _, _, _, _⟩ ?_ rfl ?_ (by assumption) ?_
  rotate_left
  · (intro w hSw; (try dsimp only at hSw); go_simp; all_goals with_reducible rfl)
  try simp only [Act.put, sA, sB, sC]
  refine wpAnyH_ready (rs := [1]) (by kernel_rfl) (by simp) ?_
  refine AllReadyH.cons rfl (fun K hK => ?_) (AllReadyH.nil)
  go_simp
  refine (copyP_is nm s G D A B gn gc dn dc _ hgn hdn hg6 hd6 (Lib.hid (hG.out.below (hB3.trans (hT0.mono hB3.size)))) (Lib.hid (hD.out.below (hB3.trans (hT0.mono hB3.size)))) CG CD).mono ?_
  rintro e y3v1 ⟨A1, ca1, B1, cb1, rfl, hsg, hsd, hna, hnb, hby3v0⟩
  have hT1 : Below x3.heap.size x3 y3v1 := hT0.trans (hby3v0.mono hT0.size)
  have HG1 := Lib.hid hsg
  have HD1 := Lib.hid hsd
  clear hsg hsd hna hnb
  clear hby3v0
  go_wp2_with fail
  refine hK.out _ _ (HS.out _ hT1) (fun hHeld => ?_)
  clear hK K
  try simp only [Act.put, sA, sB, sC]
  refine wpAnyH_ready (rs := [3]) (by kernel_rfl) (by simp) ?_
  refine AllReadyH.cons rfl (fun K hK => ?_) (AllReadyH.nil)
  go_simp
  refine (copyR_is T r AT tn tc _ htn ht6 (Lib.hid (hT.out.below (hB3.trans (hT1.mono hB3.size)))) CT).mono ?_
  rintro e y3v2 ⟨AT1, ct1, rfl, hst, hby3v1⟩
  have hT2 : Below x3.heap.size x3 y3v2 := hT1.trans (hby3v1.mono hT1.size)
  replace HG1 := Lib.hid (HG1.out.below hby3v1)
  replace HD1 := Lib.hid (HD1.out.below hby3v1)
  have HT1 := Lib.hid hst
  clear hst
  clear hby3v1
  go_wp2_with fail
  refine hK.out _ _ (HS.out _ hT2) (fun hHeld => ?_)
  clear hK K
  try simp only [Act.put, sA, sB, sC]
  refine wpAnyH_ready (rs := [5]) (by kernel_rfl) (by simp) ?_
  refine AllReadyH.cons rfl (fun K hK => ?_) (AllReadyH.nil)
  go_simp
  refine (copyIn_is L C cc an _ han ha6 (Lib.hid (hC.out.below (hB3.trans (hT2.mono hB3.size)))) CA).mono ?_
  rintro e y3v3 ⟨C1, cc1, rfl, hsc, hnc, hnd, hby3v2⟩
  have hT3 : Below x3.heap.size x3 y3v3 := hT2.trans (hby3v2.mono hT2.size)
  replace HG1 := Lib.hid (HG1.out.below hby3v2)
  replace HD1 := Lib.hid (HD1.out.below hby3v2)
  replace HT1 := Lib.hid (HT1.out.below hby3v2)
  have HC1 := Lib.hid hsc
  clear hsc hnc hnd
  clear hby3v2
  go_wp2_with fail
  refine hK.out _ _ (HS.out _ hT3) (fun hHeld => ?_)
  clear hK K
  try simp only [Act.put, sA, sB, sC]
  refine wpAnyH_ready (rs := [6]) (by kernel_rfl) (by simp) ?_
  refine AllReadyH.cons rfl (fun K hK => ?_) (AllReadyH.nil)
  go_simp
  refine (Survives_bad nm s G D A1 B1 gn ca1 dn cb1 T r AT1 tn ct1 L C1 an cc1 N 0 0 8 _ hz hgn hgl hdn hdl HG1 HD1 htn htl HT1 han ha6 HC1 hE0 hE1 hE h1).mono ?_
  rintro e y3v4 ⟨rfl, hby3v3⟩
  have hT4 : Below x3.heap.size x3 y3v4 := hT3.trans (hby3v3.mono hT3.size)
  replace HG1 := Lib.hid (HG1.out.below hby3v3)
  replace HD1 := Lib.hid (HD1.out.below hby3v3)
  replace HT1 := Lib.hid (HT1.out.below hby3v3)
  replace HC1 := Lib.hid (HC1.out.below hby3v3)
  clear hby3v3
  go_wp2_with fail
  refine hK.out _ _ (HS.out _ hT4) (fun hHeld => ?_)
  clear hK K
  try simp only [Act.put, sA, sB, sC]
  refine tkH 7 ⟨some 28, _, _, _, _, _⟩ ?_ rfl ?_ (by assumption) ?_
  rotate_left
  · (intro w hSw; (try dsimp only at hSw); go_simp; all_goals with_reducible rfl)
  try simp only [Act.put, sA, sB, sC]
  refine tkH 8 ⟨some 36, _, _, _, _, _⟩ ?_ rfl ?_ (by assumption) ?_
  rotate_left
  · (intro w hSw; (try dsimp only at hSw); go_simp; all_goals with_reducible rfl)
  try simp only [Act.put, sA, sB, sC]
  refine tkH 9 ⟨some 37, _, _, _, _, _⟩ ?_ rfl ?_ (by assumption) ?_
  rotate_left
  · (intro w hSw; (try dsimp only at hSw); go_simp; all_goals with_reducible rfl)
  try simp only [Act.put, sA, sB, sC]
  refine tkH 10 ⟨some 7, _, _, _, _, _⟩ ?_ rfl ?_ (by assumption) ?_
  rotate_left
  · (intro w hSw; (try dsimp only at hSw); go_simp; all_goals with_reducible rfl)
  try simp only [Act.put, sA, sB, sC]
  refine tkH 11 ⟨some 8, _, _, _, _, _⟩ ?_ rfl ?_ (by assumption) ?_
  rotate_left
  · (intro w hSw; (try dsimp only at hSw); go_simp; all_goals with_reducible rfl)
  try simp only [Act.put, sA, sB, sC]
  refine wpAnyH_done (by kernel_rfl) ?_ _
  have hc4 : Below x3.heap.size x3 y3v4 := hT4
  have hB4 : Below w.heap.size w y3v4 := hB3.trans (hc4.mono hB3.size)
  have zu4 := hB4.size
  replace PB := Lib.hid (PB.out.below hc4)
  replace RB := Lib.hid (RB.out.below hc4)
  clear PB_3_0 PB_3_1 PB_3_2 PB_3_3 lPB_3 nPB_3 mPB_3 RB_3_0 RB_3_1 RB_3_2 RB_3_3 RB_3_4 RB_3_5 RB_3_6 RB_3_7 RB_3_8 lRB_3 nRB_3 mRB_3
  clear HS hHeld hT0 hT1 hT2 hT3 hT4 hB3 zu3 hc3
  obtain ⟨PB_4_0, PB_4_1, PB_4_2, PB_4_3⟩ := b4 PB.out
  have lPB_4 := PB.out.lt
  have nPB_4 : y3v4.heap.size ≠ w.heap.size := by omega
  have mPB_4 : w.heap.size ≠ y3v4.heap.size := by omega
  obtain ⟨RB_4_0, RB_4_1, RB_4_2, RB_4_3, RB_4_4, RB_4_5, RB_4_6, RB_4_7, RB_4_8⟩ := b9 RB.out
  have lRB_4 := RB.out.lt
  have nRB_4 : y3v4.heap.size ≠ w.heap.size + 1 := by omega
  have mRB_4 : w.heap.size + 1 ≠ y3v4.heap.size := by omega
  clear HG1
  clear HD1
  clear HT1
  clear HC1
  go_upto_region 6 with (fail)
  have HS : Hid (∀ y, Below y3v4.heap.size y3v4 y → y.cell? ⟨w.heap.size, 0, none⟩ = some (.string nm) ∧ y.cell? ⟨w.heap.size, 1, none⟩ = some (.int .i64 s) ∧ y.cell? ⟨w.heap.size, 2, none⟩ = some (.slice A gn gc) ∧ y.cell? ⟨w.heap.size, 3, none⟩ = some (.slice B dn dc) ∧ y.cell? ⟨w.heap.size + 1, 0, none⟩ = some (.slice AT tn tc) ∧ y.cell? ⟨w.heap.size + 1, 1, none⟩ = some (.int .i64 r.a) ∧ y.cell? ⟨w.heap.size + 1, 2, none⟩ = some (.int .i64 r.b) ∧ y.cell? ⟨w.heap.size + 1, 3, none⟩ = some (.int .i64 r.nc) ∧ y.cell? ⟨w.heap.size + 1, 4, none⟩ = some (.int .i64 r.dn) ∧ y.cell? ⟨w.heap.size + 1, 5, none⟩ = some (.int .i64 r.br) ∧ y.cell? ⟨w.heap.size + 1, 6, none⟩ = some (.int .i64 r.em) ∧ y.cell? ⟨w.heap.size + 1, 7, none⟩ = some (.int .i64 r.pa) ∧ y.cell? ⟨w.heap.size + 1, 8, none⟩ = some (.int .i64 r.sc)) := Lib.hid fun y hy => ⟨(hy.cell (p := ⟨w.heap.size, 0, none⟩) lPB_4).trans PB_4_0, (hy.cell (p := ⟨w.heap.size, 1, none⟩) lPB_4).trans PB_4_1, (hy.cell (p := ⟨w.heap.size, 2, none⟩) lPB_4).trans PB_4_2, (hy.cell (p := ⟨w.heap.size, 3, none⟩) lPB_4).trans PB_4_3, (hy.cell (p := ⟨w.heap.size + 1, 0, none⟩) lRB_4).trans RB_4_0, (hy.cell (p := ⟨w.heap.size + 1, 1, none⟩) lRB_4).trans RB_4_1, (hy.cell (p := ⟨w.heap.size + 1, 2, none⟩) lRB_4).trans RB_4_2, (hy.cell (p := ⟨w.heap.size + 1, 3, none⟩) lRB_4).trans RB_4_3, (hy.cell (p := ⟨w.heap.size + 1, 4, none⟩) lRB_4).trans RB_4_4, (hy.cell (p := ⟨w.heap.size + 1, 5, none⟩) lRB_4).trans RB_4_5, (hy.cell (p := ⟨w.heap.size + 1, 6, none⟩) lRB_4).trans RB_4_6, (hy.cell (p := ⟨w.heap.size + 1, 7, none⟩) lRB_4).trans RB_4_7, (hy.cell (p := ⟨w.heap.size + 1, 8, none⟩) lRB_4).trans RB_4_8⟩
  refine wp_region_held_drew (S := (fun w' => w'.cell? ⟨w.heap.size, 0, none⟩ = some (.string nm) ∧ w'.cell? ⟨w.heap.size, 1, none⟩ = some (.int .i64 s) ∧ w'.cell? ⟨w.heap.size, 2, none⟩ = some (.slice A gn gc) ∧ w'.cell? ⟨w.heap.size, 3, none⟩ = some (.slice B dn dc) ∧ w'.cell? ⟨w.heap.size + 1, 0, none⟩ = some (.slice AT tn tc) ∧ w'.cell? ⟨w.heap.size + 1, 1, none⟩ = some (.int .i64 r.a) ∧ w'.cell? ⟨w.heap.size + 1, 2, none⟩ = some (.int .i64 r.b) ∧ w'.cell? ⟨w.heap.size + 1, 3, none⟩ = some (.int .i64 r.nc) ∧ w'.cell? ⟨w.heap.size + 1, 4, none⟩ = some (.int .i64 r.dn) ∧ w'.cell? ⟨w.heap.size + 1, 5, none⟩ = some (.int .i64 r.br) ∧ w'.cell? ⟨w.heap.size + 1, 6, none⟩ = some (.int .i64 r.em) ∧ w'.cell? ⟨w.heap.size + 1, 7, none⟩ = some (.int .i64 r.pa) ∧ w'.cell? ⟨w.heap.size + 1, 8, none⟩ = some (.int .i64 r.sc))) (by kernel_rfl) (HS.out _ (Below.refl _ _).drew) (fun hHeld => ?_)
  have hT0 : Below y3v4.heap.size y3v4 y3v4.drew := (Below.refl _ _).drew
  generalize hdr : y3v4.drew = y4v0 at *
  clear hdr
  refine tkH 0 ⟨some 39, _, _, _, _, _⟩ ?_ rfl ?_ (by assumption) ?_
  rotate_left
  · (intro w hSw; (try dsimp only at hSw); go_simp; all_goals with_reducible rfl)
  try simp only [Act.put, sA, sB, sC]
  refine tkH 2 ⟨some 41, _, _, _, _, _⟩ ?_ rfl ?_ (by assumption) ?_
  rotate_left
  · (intro w hSw; (try dsimp only at hSw); go_simp; all_goals with_reducible rfl)
  try simp only [Act.put, sA, sB, sC]
  refine tkH 4 ⟨some 43, _, _, _, _, _⟩ ?_ rfl ?_ (by assumption) ?_
  rotate_left
  · (intro w hSw; (try dsimp only at hSw); go_simp; all_goals with_reducible rfl)
  try simp only [Act.put, sA, sB, sC]
  refine wpAnyH_ready (rs := [1]) (by kernel_rfl) (by simp) ?_
  refine AllReadyH.cons rfl (fun K hK => ?_) (AllReadyH.nil)
  go_simp
  refine (copyP_is nm s G D A B gn gc dn dc _ hgn hdn hg6 hd6 (Lib.hid (hG.out.below (hB4.trans (hT0.mono hB4.size)))) (Lib.hid (hD.out.below (hB4.trans (hT0.mono hB4.size)))) CG CD).mono ?_
  rintro e y4v1 ⟨A2, ca2, B2, cb2, rfl, hsg, hsd, hna, hnb, hby4v0⟩
  have hT1 : Below y3v4.heap.size y3v4 y4v1 := hT0.trans (hby4v0.mono hT0.size)
  have HG2 := Lib.hid hsg
  have HD2 := Lib.hid hsd
  clear hsg hsd hna hnb
  clear hby4v0
  go_wp2_with fail
  refine hK.out _ _ (HS.out _ hT1) (fun hHeld => ?_)
  clear hK K
  try simp only [Act.put, sA, sB, sC]
  refine wpAnyH_ready (rs := [3]) (by kernel_rfl) (by simp) ?_
  refine AllReadyH.cons rfl (fun K hK => ?_) (AllReadyH.nil)
  go_simp
  refine (copyR_is T r AT tn tc _ htn ht6 (Lib.hid (hT.out.below (hB4.trans (hT1.mono hB4.size)))) CT).mono ?_
  rintro e y4v2 ⟨AT2, ct2, rfl, hst, hby4v1⟩
  have hT2 : Below y3v4.heap.size y3v4 y4v2 := hT1.trans (hby4v1.mono hT1.size)
  replace HG2 := Lib.hid (HG2.out.below hby4v1)
  replace HD2 := Lib.hid (HD2.out.below hby4v1)
  have HT2 := Lib.hid hst
  clear hst
  clear hby4v1
  go_wp2_with fail
  refine hK.out _ _ (HS.out _ hT2) (fun hHeld => ?_)
  clear hK K
  try simp only [Act.put, sA, sB, sC]
  refine wpAnyH_ready (rs := [5]) (by kernel_rfl) (by simp) ?_
  refine AllReadyH.cons rfl (fun K hK => ?_) (AllReadyH.nil)
  go_simp
  refine (copyIn_is L C cc an _ han ha6 (Lib.hid (hC.out.below (hB4.trans (hT2.mono hB4.size)))) CA).mono ?_
  rintro e y4v3 ⟨C2, cc2, rfl, hsc, hnc, hnd, hby4v2⟩
  have hT3 : Below y3v4.heap.size y3v4 y4v3 := hT2.trans (hby4v2.mono hT2.size)
  replace HG2 := Lib.hid (HG2.out.below hby4v2)
  replace HD2 := Lib.hid (HD2.out.below hby4v2)
  replace HT2 := Lib.hid (HT2.out.below hby4v2)
  have HC2 := Lib.hid hsc
  clear hsc hnc hnd
  clear hby4v2
  go_wp2_with fail
  refine hK.out _ _ (HS.out _ hT3) (fun hHeld => ?_)
  clear hK K
  try simp only [Act.put, sA, sB, sC]
  refine wpAnyH_ready (rs := [6]) (by kernel_rfl) (by simp) ?_
  refine AllReadyH.cons rfl (fun K hK => ?_) (AllReadyH.nil)
  go_simp
  refine (LastTurn_bad nm s G D A2 B2 gn ca2 dn cb2 T r AT2 tn ct2 L C2 an cc2 N 0 0 8 _ hz hgn hgl hdn hdl HG2 HD2 htn htl HT2 han ha6 HC2 hE0 hE1 hE h1).mono ?_
  rintro e y4v4 ⟨rfl, hby4v3⟩
  have hT4 : Below y3v4.heap.size y3v4 y4v4 := hT3.trans (hby4v3.mono hT3.size)
  replace HG2 := Lib.hid (HG2.out.below hby4v3)
  replace HD2 := Lib.hid (HD2.out.below hby4v3)
  replace HT2 := Lib.hid (HT2.out.below hby4v3)
  replace HC2 := Lib.hid (HC2.out.below hby4v3)
  clear hby4v3
  go_wp2_with fail
  refine hK.out _ _ (HS.out _ hT4) (fun hHeld => ?_)
  clear hK K
  try simp only [Act.put, sA, sB, sC]
  refine tkH 7 ⟨some 38, _, _, _, _, _⟩ ?_ rfl ?_ (by assumption) ?_
  rotate_left
  · (intro w hSw; (try dsimp only at hSw); go_simp; all_goals with_reducible rfl)
  try simp only [Act.put, sA, sB, sC]
  refine tkH 8 ⟨some 46, _, _, _, _, _⟩ ?_ rfl ?_ (by assumption) ?_
  rotate_left
  · (intro w hSw; (try dsimp only at hSw); go_simp; all_goals with_reducible rfl)
  try simp only [Act.put, sA, sB, sC]
  refine tkH 9 ⟨some 47, _, _, _, _, _⟩ ?_ rfl ?_ (by assumption) ?_
  rotate_left
  · (intro w hSw; (try dsimp only at hSw); go_simp; all_goals with_reducible rfl)
  try simp only [Act.put, sA, sB, sC]
  refine tkH 10 ⟨some 9, _, _, _, _, _⟩ ?_ rfl ?_ (by assumption) ?_
  rotate_left
  · (intro w hSw; (try dsimp only at hSw); go_simp; all_goals with_reducible rfl)
  try simp only [Act.put, sA, sB, sC]
  refine tkH 11 ⟨some 10, _, _, _, _, _⟩ ?_ rfl ?_ (by assumption) ?_
  rotate_left
  · (intro w hSw; (try dsimp only at hSw); go_simp; all_goals with_reducible rfl)
  try simp only [Act.put, sA, sB, sC]
  refine wpAnyH_done (by kernel_rfl) ?_ _
  have hc5 : Below y3v4.heap.size y3v4 y4v4 := hT4
  have hB5 : Below w.heap.size w y4v4 := hB4.trans (hc5.mono hB4.size)
  have zu5 := hB5.size
  replace PB := Lib.hid (PB.out.below hc5)
  replace RB := Lib.hid (RB.out.below hc5)
  clear PB_4_0 PB_4_1 PB_4_2 PB_4_3 lPB_4 nPB_4 mPB_4 RB_4_0 RB_4_1 RB_4_2 RB_4_3 RB_4_4 RB_4_5 RB_4_6 RB_4_7 RB_4_8 lRB_4 nRB_4 mRB_4
  clear HS hHeld hT0 hT1 hT2 hT3 hT4 hB4 zu4 hc4
  obtain ⟨PB_5_0, PB_5_1, PB_5_2, PB_5_3⟩ := b4 PB.out
  have lPB_5 := PB.out.lt
  have nPB_5 : y4v4.heap.size ≠ w.heap.size := by omega
  have mPB_5 : w.heap.size ≠ y4v4.heap.size := by omega
  obtain ⟨RB_5_0, RB_5_1, RB_5_2, RB_5_3, RB_5_4, RB_5_5, RB_5_6, RB_5_7, RB_5_8⟩ := b9 RB.out
  have lRB_5 := RB.out.lt
  have nRB_5 : y4v4.heap.size ≠ w.heap.size + 1 := by omega
  have mRB_5 : w.heap.size + 1 ≠ y4v4.heap.size := by omega
  clear HG2
  clear HD2
  clear HT2
  clear HC2
  go_wp2_with fail
  refine (refBoth_any nm s G D A B gn gc dn dc T r AT tn tc N 0 0 0 _ hz6 hgn hgl hdn hdl (Lib.hid (hG.out.below (by (repeat (first | (with_reducible refine Below.drew ?_) | (with_reducible refine below_drewN ?_ _) | (with_reducible refine Below.alloc ?_ (by first | omega | (simp; done) | (simp; omega) | (simp at *; omega)) _) | (with_reducible refine Below.setCell ?_ (by first | omega | (simp; done) | (simp; omega) | (simp at *; omega)) _) | (with_reducible exact Below.refl _ _) | (with_reducible assumption) | (with_reducible refine Below.trans ?_ (Below.mono (by assumption) (by first | omega | (simp; done) | (simp; omega) | (simp at *; omega))))))))) (Lib.hid (hD.out.below (by (repeat (first | (with_reducible refine Below.drew ?_) | (with_reducible refine below_drewN ?_ _) | (with_reducible refine Below.alloc ?_ (by first | omega | (simp; done) | (simp; omega) | (simp at *; omega)) _) | (with_reducible refine Below.setCell ?_ (by first | omega | (simp; done) | (simp; omega) | (simp at *; omega)) _) | (with_reducible exact Below.refl _ _) | (with_reducible assumption) | (with_reducible refine Below.trans ?_ (Below.mono (by assumption) (by first | omega | (simp; done) | (simp; omega) | (simp at *; omega))))))))) hE0 htn htl (Lib.hid (hT.out.below (by (repeat (first | (with_reducible refine Below.drew ?_) | (with_reducible refine below_drewN ?_ _) | (with_reducible refine Below.alloc ?_ (by first | omega | (simp; done) | (simp; omega) | (simp at *; omega)) _) | (with_reducible refine Below.setCell ?_ (by first | omega | (simp; done) | (simp; omega) | (simp at *; omega)) _) | (with_reducible exact Below.refl _ _) | (with_reducible assumption) | (with_reducible refine Below.trans ?_ (Below.mono (by assumption) (by first | omega | (simp; done) | (simp; omega) | (simp at *; omega))))))))) hE1 hEB).mono ?_
  rintro e x6 ⟨rfl, hb6⟩
  have hc6 : Below y4v4.heap.size y4v4 x6 := hb6
  have hB6 : Below w.heap.size w x6 := hB5.trans (hc6.mono hB5.size)
  have zu6 := hB6.size
  replace PB := Lib.hid (PB.out.below hc6)
  replace RB := Lib.hid (RB.out.below hc6)
  clear PB_5_0 PB_5_1 PB_5_2 PB_5_3 lPB_5 nPB_5 mPB_5 RB_5_0 RB_5_1 RB_5_2 RB_5_3 RB_5_4 RB_5_5 RB_5_6 RB_5_7 RB_5_8 lRB_5 nRB_5 mRB_5
  clear hb6 hB5 zu5 hc5
  obtain ⟨PB_6_0, PB_6_1, PB_6_2, PB_6_3⟩ := b4 PB.out
  have lPB_6 := PB.out.lt
  have nPB_6 : x6.heap.size ≠ w.heap.size := by omega
  have mPB_6 : w.heap.size ≠ x6.heap.size := by omega
  obtain ⟨RB_6_0, RB_6_1, RB_6_2, RB_6_3, RB_6_4, RB_6_5, RB_6_6, RB_6_7, RB_6_8⟩ := b9 RB.out
  have lRB_6 := RB.out.lt
  have nRB_6 : x6.heap.size ≠ w.heap.size + 1 := by omega
  have mRB_6 : w.heap.size + 1 ≠ x6.heap.size := by omega
  go_wp2_with fail
  refine (refAmt_is nm s A B gn gc dn dc L C an cc 0 _ hgl han ha6 (Lib.hid (hC.out.below (by (repeat (first | (with_reducible refine Below.drew ?_) | (with_reducible refine below_drewN ?_ _) | (with_reducible refine Below.alloc ?_ (by first | omega | (simp; done) | (simp; omega) | (simp at *; omega)) _) | (with_reducible refine Below.setCell ?_ (by first | omega | (simp; done) | (simp; omega) | (simp at *; omega)) _) | (with_reducible exact Below.refl _ _) | (with_reducible assumption) | (with_reducible refine Below.trans ?_ (Below.mono (by assumption) (by first | omega | (simp; done) | (simp; omega) | (simp at *; omega))))))))) hEA).mono ?_
  rintro e x7 ⟨rfl, hb7⟩
  have hc7 : Below x6.heap.size x6 x7 := hb7
  have hB7 : Below w.heap.size w x7 := hB6.trans (hc7.mono hB6.size)
  have zu7 := hB7.size
  replace PB := Lib.hid (PB.out.below hc7)
  replace RB := Lib.hid (RB.out.below hc7)
  clear PB_6_0 PB_6_1 PB_6_2 PB_6_3 lPB_6 nPB_6 mPB_6 RB_6_0 RB_6_1 RB_6_2 RB_6_3 RB_6_4 RB_6_5 RB_6_6 RB_6_7 RB_6_8 lRB_6 nRB_6 mRB_6
  clear hb7 hB6 zu6 hc6
  obtain ⟨PB_7_0, PB_7_1, PB_7_2, PB_7_3⟩ := b4 PB.out
  have lPB_7 := PB.out.lt
  have nPB_7 : x7.heap.size ≠ w.heap.size := by omega
  have mPB_7 : w.heap.size ≠ x7.heap.size := by omega
  obtain ⟨RB_7_0, RB_7_1, RB_7_2, RB_7_3, RB_7_4, RB_7_5, RB_7_6, RB_7_7, RB_7_8⟩ := b9 RB.out
  have lRB_7 := RB.out.lt
  have nRB_7 : x7.heap.size ≠ w.heap.size + 1 := by omega
  have mRB_7 : w.heap.size + 1 ≠ x7.heap.size := by omega
  go_wp2_with fail
  refine (followed_is nm s G D A B gn gc dn dc T r AT tn tc N 0 0 8 8 _ hz6 hgn hgl hdn hdl (Lib.hid (hG.out.below (by (repeat (first | (with_reducible refine Below.drew ?_) | (with_reducible refine below_drewN ?_ _) | (with_reducible refine Below.alloc ?_ (by first | omega | (simp; done) | (simp; omega) | (simp at *; omega)) _) | (with_reducible refine Below.setCell ?_ (by first | omega | (simp; done) | (simp; omega) | (simp at *; omega)) _) | (with_reducible exact Below.refl _ _) | (with_reducible assumption) | (with_reducible refine Below.trans ?_ (Below.mono (by assumption) (by first | omega | (simp; done) | (simp; omega) | (simp at *; omega))))))))) (Lib.hid (hD.out.below (by (repeat (first | (with_reducible refine Below.drew ?_) | (with_reducible refine below_drewN ?_ _) | (with_reducible refine Below.alloc ?_ (by first | omega | (simp; done) | (simp; omega) | (simp at *; omega)) _) | (with_reducible refine Below.setCell ?_ (by first | omega | (simp; done) | (simp; omega) | (simp at *; omega)) _) | (with_reducible exact Below.refl _ _) | (with_reducible assumption) | (with_reducible refine Below.trans ?_ (Below.mono (by assumption) (by first | omega | (simp; done) | (simp; omega) | (simp at *; omega))))))))) htn htl (Lib.hid (hT.out.below (by (repeat (first | (with_reducible refine Below.drew ?_) | (with_reducible refine below_drewN ?_ _) | (with_reducible refine Below.alloc ?_ (by first | omega | (simp; done) | (simp; omega) | (simp at *; omega)) _) | (with_reducible refine Below.setCell ?_ (by first | omega | (simp; done) | (simp; omega) | (simp at *; omega)) _) | (with_reducible exact Below.refl _ _) | (with_reducible assumption) | (with_reducible refine Below.trans ?_ (Below.mono (by assumption) (by first | omega | (simp; done) | (simp; omega) | (simp at *; omega))))))))) hE0 hE1 hF2 hE3).mono ?_
  rintro e x8 ⟨rfl, hb8⟩
  have hc8 : Below x7.heap.size x7 x8 := hb8
  have hB8 : Below w.heap.size w x8 := hB7.trans (hc8.mono hB7.size)
  have zu8 := hB8.size
  replace PB := Lib.hid (PB.out.below hc8)
  replace RB := Lib.hid (RB.out.below hc8)
  clear PB_7_0 PB_7_1 PB_7_2 PB_7_3 lPB_7 nPB_7 mPB_7 RB_7_0 RB_7_1 RB_7_2 RB_7_3 RB_7_4 RB_7_5 RB_7_6 RB_7_7 RB_7_8 lRB_7 nRB_7 mRB_7
  clear hb8 hB7 zu7 hc7
  obtain ⟨PB_8_0, PB_8_1, PB_8_2, PB_8_3⟩ := b4 PB.out
  have lPB_8 := PB.out.lt
  have nPB_8 : x8.heap.size ≠ w.heap.size := by omega
  have mPB_8 : w.heap.size ≠ x8.heap.size := by omega
  obtain ⟨RB_8_0, RB_8_1, RB_8_2, RB_8_3, RB_8_4, RB_8_5, RB_8_6, RB_8_7, RB_8_8⟩ := b9 RB.out
  have lRB_8 := RB.out.lt
  have nRB_8 : x8.heap.size ≠ w.heap.size + 1 := by omega
  have mRB_8 : w.heap.size + 1 ≠ x8.heap.size := by omega
  go_wp2
  go_ret
  exact ⟨rfl, hB8⟩
set_option maxRecDepth 100000 in
set_option maxHeartbeats 8000000 in
theorem sv_t (nm : ByteArray) (s : Int) (G : List Ga) (D : List Le) (A B : Option Addr) (gn gc dn dc : Nat) (T : List Ox) (r : Ru) (AT : Option Addr) (tn tc : Nat) (L : List Int) (C : Option Addr) (an cc : Nat) (sb : Bool) (N : Nat) (kk NN : Nat) (gF : Nat → Nat) (vF sF : Nat → Int) (w : World) (hz : nm.size ≤ 9223372036854775807) (hgn : Hid (gn = G.length)) (hgl : gn ≤ 9223372036854775807) (hdn : Hid (dn = D.length)) (hdl : dn ≤ 9223372036854775807) (hG : Hid (SlRows gaV 2 w A G)) (hD : Hid (SlRows leV 3 w B D)) (CG : Hid (A = none → gn = 0 ∧ gc = 0)) (CD : Hid (B = none → dn = 0 ∧ dc = 0)) (htn : Hid (tn = T.length)) (htl : tn ≤ 9223372036854775807) (hT : Hid (SlRows oxV 2 w AT T)) (CT : Hid (AT = none → tn = 0 ∧ tc = 0)) (han : Hid (an = L.length)) (hal : an ≤ 9223372036854775807) (hC : Hid (SlRows inV 1 w C L)) (CA : Hid (C = none → an = 0 ∧ cc = 0)) (hS1 : Hid (shortB nm.size dn gn = true)) (hS : Hid (shortB nm.size dn gn = sb)) (hE0 : Hid (plnP nm s G D = (N, 0))) (hb : Hid (briefV sb 0 (secT D dn) = true)) (hF : Hid (fewB tn = true)) (ha : an ≤ 12) (hE1 : Hid (ruE T r = 0)) (hE : Hid (firE [0, 0, amE L gn, if 20000 < secT D dn then (8 : Int) else 0] = 0)) (hEB : Hid (firE [0, 0] = 0)) (hEA : Hid (amE L gn = 0)) (hF2 : Hid ((if 20000 < secT D dn then (8 : Int) else 0) = 0)) (hE3 : Hid (firE [0, 0, 0] = 0)) (hF9 : Hid (∀ i : Nat, gF i = ndG s G D (0 + (i : Int)) ∧ vF i = ndV r s G D (0 + (i : Int)) ∧ sF i = 0 + (i : Int))) (hok : Hid (PlnOk nm s G D)) (hru : Hid (RuOk T r)) (hS9 : Hid (secT D D.length ≤ 20000)) (hNN : Hid (ndN D 0 = NN)) (hgL : Hid (∀ i, i < NN → gF i < an)) (hk1 : Hid (kk ≤ NN)) (hk2 : Hid (∀ j, j < kk → vF j ≤ L.getD (gF j) 0)) (hk3 : Hid (kk < NN → L.getD (gF kk) 0 < vF kk)) (hkN : Hid (kk < NN)) (hk0 : 0 < kk) :
    Calls Tryz.prog 4 #[.agg #[.string nm, .int .i64 s, .slice A gn gc, .slice B dn dc], .agg #[.slice AT tn tc, .int .i64 r.a, .int .i64 r.b, .int .i64 r.nc, .int .i64 r.dn, .int .i64 r.br, .int .i64 r.em, .int .i64 r.pa, .int .i64 r.sc], .slice C an cc] w fun e w' => e = .returned (.bool true) ∧ Below w.heap.size w w' := by
  have hkz : ((kk : Int) == 0) = false := by simp; omega
  have hkz2 : (kk == 0) = false := by simp; omega
  have hkz3 : ¬ (kk : Int) < 0 := by omega
  have wk : IntKind.i64.wrap ((kk : Int) - 1) = (kk : Int) - 1 := IntWalk.i64_in _ (by
    have h1 := hkN.out
    have h2 := hNN.out
    have h3 := (hok.out.sec D.length).2
    unfold ndN at h2
    by_cases e : D.length = 0
    · rw [if_pos e] at h2; omega
    · rw [if_neg e] at h2; omega)
  have hsb := shortB_le hS1.out
  have hz6 : nm.size ≤ 1000000 := by omega
  have hg6 : gn ≤ 1000000 := by omega
  have hd6 : dn ≤ 1000000 := by omega
  have ht22 : tn ≤ 22 := fewB_le hF.out
  have ht6 : tn ≤ 1000000 := by omega
  have ha6 : an ≤ 1000000 := by omega
  have ha0 : ¬ (12 : Int) < (an : Int) := by omega
  go_enter Tryz.func4, Tryz.ntmps4
  go_wp2_with fail
  refine (awake_any _).mono ?_
  rintro e x1 ⟨rfl, hb1⟩
  have hc1 : Below w.heap.size w x1 := (((Below.refl _ _).alloc (by first | exact Nat.le_refl _ | (simp; done) | (simp; omega)) _).alloc (by first | exact Nat.le_refl _ | (simp; done) | (simp; omega)) _).trans (hb1.mono (by first | exact Nat.le_refl _ | (simp; done) | (simp; omega)))
  have hB1 : Below w.heap.size w x1 := hc1
  have zu1 := hB1.size
  have PB : Hid (BlkF x1 w.heap.size (w.heap.size) [.string nm, .int .i64 s, .slice A gn gc, .slice B dn dc]) := Lib.hid (((BlkF.made (B := w.heap.size) w [.string nm, .int .i64 s, .slice A gn gc, .slice B dn dc] 25 (by first | exact Nat.le_refl _ | (simp; done) | (simp; omega))).below ((Below.refl _ _).alloc (Nat.le_refl _) _)).below hb1)
  have zPB1 := PB.out.lt
  have RB : Hid (BlkF x1 w.heap.size (w.heap.size + 1) [.slice AT tn tc, .int .i64 r.a, .int .i64 r.b, .int .i64 r.nc, .int .i64 r.dn, .int .i64 r.br, .int .i64 r.em, .int .i64 r.pa, .int .i64 r.sc]) := Lib.hid (by have := (BlkF.made (B := w.heap.size) (w.alloc (.cells #[.string nm, .int .i64 s, .slice A gn gc, .slice B dn dc] 25)) [.slice AT tn tc, .int .i64 r.a, .int .i64 r.b, .int .i64 r.nc, .int .i64 r.dn, .int .i64 r.br, .int .i64 r.em, .int .i64 r.pa, .int .i64 r.sc] 30 (by first | exact Nat.le_refl _ | (simp; done) | (simp; omega))).below hb1; simpa using this)
  have zRB1 := RB.out.lt
  clear hb1
  obtain ⟨PB_1_0, PB_1_1, PB_1_2, PB_1_3⟩ := b4 PB.out
  have lPB_1 := PB.out.lt
  have nPB_1 : x1.heap.size ≠ w.heap.size := by omega
  have mPB_1 : w.heap.size ≠ x1.heap.size := by omega
  obtain ⟨RB_1_0, RB_1_1, RB_1_2, RB_1_3, RB_1_4, RB_1_5, RB_1_6, RB_1_7, RB_1_8⟩ := b9 RB.out
  have lRB_1 := RB.out.lt
  have nRB_1 : x1.heap.size ≠ w.heap.size + 1 := by omega
  have mRB_1 : w.heap.size + 1 ≠ x1.heap.size := by omega
  go_wp2_with fail
  refine (Brief_is nm s G D A B gn gc dn dc sb true N 0 _ hz hgn hgl hdn hdl (Lib.hid (hG.out.below (by (repeat (first | (with_reducible refine Below.drew ?_) | (with_reducible refine below_drewN ?_ _) | (with_reducible refine Below.alloc ?_ (by first | omega | (simp; done) | (simp; omega) | (simp at *; omega)) _) | (with_reducible refine Below.setCell ?_ (by first | omega | (simp; done) | (simp; omega) | (simp at *; omega)) _) | (with_reducible exact Below.refl _ _) | (with_reducible assumption) | (with_reducible refine Below.trans ?_ (Below.mono (by assumption) (by first | omega | (simp; done) | (simp; omega) | (simp at *; omega))))))))) (Lib.hid (hD.out.below (by (repeat (first | (with_reducible refine Below.drew ?_) | (with_reducible refine below_drewN ?_ _) | (with_reducible refine Below.alloc ?_ (by first | omega | (simp; done) | (simp; omega) | (simp at *; omega)) _) | (with_reducible refine Below.setCell ?_ (by first | omega | (simp; done) | (simp; omega) | (simp at *; omega)) _) | (with_reducible exact Below.refl _ _) | (with_reducible assumption) | (with_reducible refine Below.trans ?_ (Below.mono (by assumption) (by first | omega | (simp; done) | (simp; omega) | (simp at *; omega))))))))) hS hE0 hb).mono ?_
  rintro e x2 ⟨rfl, hb2⟩
  have hc2 : Below x1.heap.size x1 x2 := hb2
  have hB2 : Below w.heap.size w x2 := hB1.trans (hc2.mono hB1.size)
  have zu2 := hB2.size
  replace PB := Lib.hid (PB.out.below hc2)
  replace RB := Lib.hid (RB.out.below hc2)
  clear PB_1_0 PB_1_1 PB_1_2 PB_1_3 lPB_1 nPB_1 mPB_1 RB_1_0 RB_1_1 RB_1_2 RB_1_3 RB_1_4 RB_1_5 RB_1_6 RB_1_7 RB_1_8 lRB_1 nRB_1 mRB_1
  clear hb2 hB1 zu1 hc1
  obtain ⟨PB_2_0, PB_2_1, PB_2_2, PB_2_3⟩ := b4 PB.out
  have lPB_2 := PB.out.lt
  have nPB_2 : x2.heap.size ≠ w.heap.size := by omega
  have mPB_2 : w.heap.size ≠ x2.heap.size := by omega
  obtain ⟨RB_2_0, RB_2_1, RB_2_2, RB_2_3, RB_2_4, RB_2_5, RB_2_6, RB_2_7, RB_2_8⟩ := b9 RB.out
  have lRB_2 := RB.out.lt
  have nRB_2 : x2.heap.size ≠ w.heap.size + 1 := by omega
  have mRB_2 : w.heap.size + 1 ≠ x2.heap.size := by omega
  go_wp2_with fail
  refine (few_is r AT tn tc true _ htl hF).mono ?_
  rintro e x3 ⟨rfl, hb3⟩
  have hc3 : Below x2.heap.size x2 x3 := hb3
  have hB3 : Below w.heap.size w x3 := hB2.trans (hc3.mono hB2.size)
  have zu3 := hB3.size
  replace PB := Lib.hid (PB.out.below hc3)
  replace RB := Lib.hid (RB.out.below hc3)
  clear PB_2_0 PB_2_1 PB_2_2 PB_2_3 lPB_2 nPB_2 mPB_2 RB_2_0 RB_2_1 RB_2_2 RB_2_3 RB_2_4 RB_2_5 RB_2_6 RB_2_7 RB_2_8 lRB_2 nRB_2 mRB_2
  clear hb3 hB2 zu2 hc2
  obtain ⟨PB_3_0, PB_3_1, PB_3_2, PB_3_3⟩ := b4 PB.out
  have lPB_3 := PB.out.lt
  have nPB_3 : x3.heap.size ≠ w.heap.size := by omega
  have mPB_3 : w.heap.size ≠ x3.heap.size := by omega
  obtain ⟨RB_3_0, RB_3_1, RB_3_2, RB_3_3, RB_3_4, RB_3_5, RB_3_6, RB_3_7, RB_3_8⟩ := b9 RB.out
  have lRB_3 := RB.out.lt
  have nRB_3 : x3.heap.size ≠ w.heap.size + 1 := by omega
  have mRB_3 : w.heap.size + 1 ≠ x3.heap.size := by omega
  go_upto_region 5 with (fail)
  have HS : Hid (∀ y, Below x3.heap.size x3 y → y.cell? ⟨w.heap.size, 0, none⟩ = some (.string nm) ∧ y.cell? ⟨w.heap.size, 1, none⟩ = some (.int .i64 s) ∧ y.cell? ⟨w.heap.size, 2, none⟩ = some (.slice A gn gc) ∧ y.cell? ⟨w.heap.size, 3, none⟩ = some (.slice B dn dc) ∧ y.cell? ⟨w.heap.size + 1, 0, none⟩ = some (.slice AT tn tc) ∧ y.cell? ⟨w.heap.size + 1, 1, none⟩ = some (.int .i64 r.a) ∧ y.cell? ⟨w.heap.size + 1, 2, none⟩ = some (.int .i64 r.b) ∧ y.cell? ⟨w.heap.size + 1, 3, none⟩ = some (.int .i64 r.nc) ∧ y.cell? ⟨w.heap.size + 1, 4, none⟩ = some (.int .i64 r.dn) ∧ y.cell? ⟨w.heap.size + 1, 5, none⟩ = some (.int .i64 r.br) ∧ y.cell? ⟨w.heap.size + 1, 6, none⟩ = some (.int .i64 r.em) ∧ y.cell? ⟨w.heap.size + 1, 7, none⟩ = some (.int .i64 r.pa) ∧ y.cell? ⟨w.heap.size + 1, 8, none⟩ = some (.int .i64 r.sc)) := Lib.hid fun y hy => ⟨(hy.cell (p := ⟨w.heap.size, 0, none⟩) lPB_3).trans PB_3_0, (hy.cell (p := ⟨w.heap.size, 1, none⟩) lPB_3).trans PB_3_1, (hy.cell (p := ⟨w.heap.size, 2, none⟩) lPB_3).trans PB_3_2, (hy.cell (p := ⟨w.heap.size, 3, none⟩) lPB_3).trans PB_3_3, (hy.cell (p := ⟨w.heap.size + 1, 0, none⟩) lRB_3).trans RB_3_0, (hy.cell (p := ⟨w.heap.size + 1, 1, none⟩) lRB_3).trans RB_3_1, (hy.cell (p := ⟨w.heap.size + 1, 2, none⟩) lRB_3).trans RB_3_2, (hy.cell (p := ⟨w.heap.size + 1, 3, none⟩) lRB_3).trans RB_3_3, (hy.cell (p := ⟨w.heap.size + 1, 4, none⟩) lRB_3).trans RB_3_4, (hy.cell (p := ⟨w.heap.size + 1, 5, none⟩) lRB_3).trans RB_3_5, (hy.cell (p := ⟨w.heap.size + 1, 6, none⟩) lRB_3).trans RB_3_6, (hy.cell (p := ⟨w.heap.size + 1, 7, none⟩) lRB_3).trans RB_3_7, (hy.cell (p := ⟨w.heap.size + 1, 8, none⟩) lRB_3).trans RB_3_8⟩
  refine wp_region_held_drew (S := (fun w' => w'.cell? ⟨w.heap.size, 0, none⟩ = some (.string nm) ∧ w'.cell? ⟨w.heap.size, 1, none⟩ = some (.int .i64 s) ∧ w'.cell? ⟨w.heap.size, 2, none⟩ = some (.slice A gn gc) ∧ w'.cell? ⟨w.heap.size, 3, none⟩ = some (.slice B dn dc) ∧ w'.cell? ⟨w.heap.size + 1, 0, none⟩ = some (.slice AT tn tc) ∧ w'.cell? ⟨w.heap.size + 1, 1, none⟩ = some (.int .i64 r.a) ∧ w'.cell? ⟨w.heap.size + 1, 2, none⟩ = some (.int .i64 r.b) ∧ w'.cell? ⟨w.heap.size + 1, 3, none⟩ = some (.int .i64 r.nc) ∧ w'.cell? ⟨w.heap.size + 1, 4, none⟩ = some (.int .i64 r.dn) ∧ w'.cell? ⟨w.heap.size + 1, 5, none⟩ = some (.int .i64 r.br) ∧ w'.cell? ⟨w.heap.size + 1, 6, none⟩ = some (.int .i64 r.em) ∧ w'.cell? ⟨w.heap.size + 1, 7, none⟩ = some (.int .i64 r.pa) ∧ w'.cell? ⟨w.heap.size + 1, 8, none⟩ = some (.int .i64 r.sc))) (by kernel_rfl) (HS.out _ (Below.refl _ _).drew) (fun hHeld => ?_)
  have hT0 : Below x3.heap.size x3 x3.drew := (Below.refl _ _).drew
  generalize hdr : x3.drew = y3v0 at *
  clear hdr
  refine tkH 0 ⟨some 29, _, _, _, _, _⟩ ?_ rfl ?_ (by assumption) ?_
  rotate_left
  · (intro w hSw; (try dsimp only at hSw); go_simp; all_goals with_reducible rfl)
  try simp only [Act.put, sA, sB, sC]
  refine tkH 2 ⟨some 31, _, _, _, _, _⟩ ?_ rfl ?_ (by assumption) ?_
  rotate_left
  · (intro w hSw; (try dsimp only at hSw); go_simp; all_goals with_reducible rfl)
  try simp only [Act.put, sA, sB, sC]
  refine tkH 4 ⟨some 33, _, _, _, _, _⟩ ?_ rfl ?_ (by assumption) ?_
  rotate_left
  · (intro w hSw; (try dsimp only at hSw); go_simp; all_goals with_reducible rfl)
  try simp only [Act.put, sA, sB, sC]
  refine wpAnyH_ready (rs := [1]) (by kernel_rfl) (by simp) ?_
  refine AllReadyH.cons rfl (fun K hK => ?_) (AllReadyH.nil)
  go_simp
  refine (copyP_is nm s G D A B gn gc dn dc _ hgn hdn hg6 hd6 (Lib.hid (hG.out.below (hB3.trans (hT0.mono hB3.size)))) (Lib.hid (hD.out.below (hB3.trans (hT0.mono hB3.size)))) CG CD).mono ?_
  rintro e y3v1 ⟨A1, ca1, B1, cb1, rfl, hsg, hsd, hna, hnb, hby3v0⟩
  have hT1 : Below x3.heap.size x3 y3v1 := hT0.trans (hby3v0.mono hT0.size)
  have HG1 := Lib.hid hsg
  have HD1 := Lib.hid hsd
  clear hsg hsd hna hnb
  clear hby3v0
  go_wp2_with fail
  refine hK.out _ _ (HS.out _ hT1) (fun hHeld => ?_)
  clear hK K
  try simp only [Act.put, sA, sB, sC]
  refine wpAnyH_ready (rs := [3]) (by kernel_rfl) (by simp) ?_
  refine AllReadyH.cons rfl (fun K hK => ?_) (AllReadyH.nil)
  go_simp
  refine (copyR_is T r AT tn tc _ htn ht6 (Lib.hid (hT.out.below (hB3.trans (hT1.mono hB3.size)))) CT).mono ?_
  rintro e y3v2 ⟨AT1, ct1, rfl, hst, hby3v1⟩
  have hT2 : Below x3.heap.size x3 y3v2 := hT1.trans (hby3v1.mono hT1.size)
  replace HG1 := Lib.hid (HG1.out.below hby3v1)
  replace HD1 := Lib.hid (HD1.out.below hby3v1)
  have HT1 := Lib.hid hst
  clear hst
  clear hby3v1
  go_wp2_with fail
  refine hK.out _ _ (HS.out _ hT2) (fun hHeld => ?_)
  clear hK K
  try simp only [Act.put, sA, sB, sC]
  refine wpAnyH_ready (rs := [5]) (by kernel_rfl) (by simp) ?_
  refine AllReadyH.cons rfl (fun K hK => ?_) (AllReadyH.nil)
  go_simp
  refine (copyIn_is L C cc an _ han ha6 (Lib.hid (hC.out.below (hB3.trans (hT2.mono hB3.size)))) CA).mono ?_
  rintro e y3v3 ⟨C1, cc1, rfl, hsc, hnc, hnd, hby3v2⟩
  have hT3 : Below x3.heap.size x3 y3v3 := hT2.trans (hby3v2.mono hT2.size)
  replace HG1 := Lib.hid (HG1.out.below hby3v2)
  replace HD1 := Lib.hid (HD1.out.below hby3v2)
  replace HT1 := Lib.hid (HT1.out.below hby3v2)
  have HC1 := Lib.hid hsc
  clear hsc hnc hnd
  clear hby3v2
  go_wp2_with fail
  refine hK.out _ _ (HS.out _ hT3) (fun hHeld => ?_)
  clear hK K
  try simp only [Act.put, sA, sB, sC]
  refine wpAnyH_ready (rs := [6]) (by kernel_rfl) (by simp) ?_
  refine AllReadyH.cons rfl (fun K hK => ?_) (AllReadyH.nil)
  go_simp
  refine (Survives_t nm s G D A1 B1 gn ca1 dn cb1 T r AT1 tn ct1 L C1 an cc1 N kk NN gF vF sF _ hz hgn hgl hdn hdl HG1 HD1 htn htl HT1 han ha6 HC1 hE0 hE1 hE hF9 hok hru hS9 hNN hgL hk1 hk2 hk3 hkN).mono ?_
  rintro e y3v4 ⟨rfl, hby3v3⟩
  have hT4 : Below x3.heap.size x3 y3v4 := hT3.trans (hby3v3.mono hT3.size)
  replace HG1 := Lib.hid (HG1.out.below hby3v3)
  replace HD1 := Lib.hid (HD1.out.below hby3v3)
  replace HT1 := Lib.hid (HT1.out.below hby3v3)
  replace HC1 := Lib.hid (HC1.out.below hby3v3)
  clear hby3v3
  go_wp2_with fail
  refine hK.out _ _ (HS.out _ hT4) (fun hHeld => ?_)
  clear hK K
  try simp only [Act.put, sA, sB, sC]
  refine tkH 7 ⟨some 28, _, _, _, _, _⟩ ?_ rfl ?_ (by assumption) ?_
  rotate_left
  · (intro w hSw; (try dsimp only at hSw); go_simp; all_goals with_reducible rfl)
  try simp only [Act.put, sA, sB, sC]
  refine tkH 8 ⟨some 36, _, _, _, _, _⟩ ?_ rfl ?_ (by assumption) ?_
  rotate_left
  · (intro w hSw; (try dsimp only at hSw); go_simp; all_goals with_reducible rfl)
  try simp only [Act.put, sA, sB, sC]
  refine tkH 9 ⟨some 37, _, _, _, _, _⟩ ?_ rfl ?_ (by assumption) ?_
  rotate_left
  · (intro w hSw; (try dsimp only at hSw); go_simp; all_goals with_reducible rfl)
  try simp only [Act.put, sA, sB, sC]
  refine tkH 10 ⟨some 7, _, _, _, _, _⟩ ?_ rfl ?_ (by assumption) ?_
  rotate_left
  · (intro w hSw; (try dsimp only at hSw); go_simp; all_goals with_reducible rfl)
  try simp only [Act.put, sA, sB, sC]
  refine tkH 11 ⟨some 8, _, _, _, _, _⟩ ?_ rfl ?_ (by assumption) ?_
  rotate_left
  · (intro w hSw; (try dsimp only at hSw); go_simp; all_goals with_reducible rfl)
  try simp only [Act.put, sA, sB, sC]
  refine wpAnyH_done (by kernel_rfl) ?_ _
  have hc4 : Below x3.heap.size x3 y3v4 := hT4
  have hB4 : Below w.heap.size w y3v4 := hB3.trans (hc4.mono hB3.size)
  have zu4 := hB4.size
  replace PB := Lib.hid (PB.out.below hc4)
  replace RB := Lib.hid (RB.out.below hc4)
  clear PB_3_0 PB_3_1 PB_3_2 PB_3_3 lPB_3 nPB_3 mPB_3 RB_3_0 RB_3_1 RB_3_2 RB_3_3 RB_3_4 RB_3_5 RB_3_6 RB_3_7 RB_3_8 lRB_3 nRB_3 mRB_3
  clear HS hHeld hT0 hT1 hT2 hT3 hT4 hB3 zu3 hc3
  obtain ⟨PB_4_0, PB_4_1, PB_4_2, PB_4_3⟩ := b4 PB.out
  have lPB_4 := PB.out.lt
  have nPB_4 : y3v4.heap.size ≠ w.heap.size := by omega
  have mPB_4 : w.heap.size ≠ y3v4.heap.size := by omega
  obtain ⟨RB_4_0, RB_4_1, RB_4_2, RB_4_3, RB_4_4, RB_4_5, RB_4_6, RB_4_7, RB_4_8⟩ := b9 RB.out
  have lRB_4 := RB.out.lt
  have nRB_4 : y3v4.heap.size ≠ w.heap.size + 1 := by omega
  have mRB_4 : w.heap.size + 1 ≠ y3v4.heap.size := by omega
  clear HG1
  clear HD1
  clear HT1
  clear HC1
  go_upto_region 6 with (fail)
  have HS : Hid (∀ y, Below y3v4.heap.size y3v4 y → y.cell? ⟨w.heap.size, 0, none⟩ = some (.string nm) ∧ y.cell? ⟨w.heap.size, 1, none⟩ = some (.int .i64 s) ∧ y.cell? ⟨w.heap.size, 2, none⟩ = some (.slice A gn gc) ∧ y.cell? ⟨w.heap.size, 3, none⟩ = some (.slice B dn dc) ∧ y.cell? ⟨w.heap.size + 1, 0, none⟩ = some (.slice AT tn tc) ∧ y.cell? ⟨w.heap.size + 1, 1, none⟩ = some (.int .i64 r.a) ∧ y.cell? ⟨w.heap.size + 1, 2, none⟩ = some (.int .i64 r.b) ∧ y.cell? ⟨w.heap.size + 1, 3, none⟩ = some (.int .i64 r.nc) ∧ y.cell? ⟨w.heap.size + 1, 4, none⟩ = some (.int .i64 r.dn) ∧ y.cell? ⟨w.heap.size + 1, 5, none⟩ = some (.int .i64 r.br) ∧ y.cell? ⟨w.heap.size + 1, 6, none⟩ = some (.int .i64 r.em) ∧ y.cell? ⟨w.heap.size + 1, 7, none⟩ = some (.int .i64 r.pa) ∧ y.cell? ⟨w.heap.size + 1, 8, none⟩ = some (.int .i64 r.sc)) := Lib.hid fun y hy => ⟨(hy.cell (p := ⟨w.heap.size, 0, none⟩) lPB_4).trans PB_4_0, (hy.cell (p := ⟨w.heap.size, 1, none⟩) lPB_4).trans PB_4_1, (hy.cell (p := ⟨w.heap.size, 2, none⟩) lPB_4).trans PB_4_2, (hy.cell (p := ⟨w.heap.size, 3, none⟩) lPB_4).trans PB_4_3, (hy.cell (p := ⟨w.heap.size + 1, 0, none⟩) lRB_4).trans RB_4_0, (hy.cell (p := ⟨w.heap.size + 1, 1, none⟩) lRB_4).trans RB_4_1, (hy.cell (p := ⟨w.heap.size + 1, 2, none⟩) lRB_4).trans RB_4_2, (hy.cell (p := ⟨w.heap.size + 1, 3, none⟩) lRB_4).trans RB_4_3, (hy.cell (p := ⟨w.heap.size + 1, 4, none⟩) lRB_4).trans RB_4_4, (hy.cell (p := ⟨w.heap.size + 1, 5, none⟩) lRB_4).trans RB_4_5, (hy.cell (p := ⟨w.heap.size + 1, 6, none⟩) lRB_4).trans RB_4_6, (hy.cell (p := ⟨w.heap.size + 1, 7, none⟩) lRB_4).trans RB_4_7, (hy.cell (p := ⟨w.heap.size + 1, 8, none⟩) lRB_4).trans RB_4_8⟩
  refine wp_region_held_drew (S := (fun w' => w'.cell? ⟨w.heap.size, 0, none⟩ = some (.string nm) ∧ w'.cell? ⟨w.heap.size, 1, none⟩ = some (.int .i64 s) ∧ w'.cell? ⟨w.heap.size, 2, none⟩ = some (.slice A gn gc) ∧ w'.cell? ⟨w.heap.size, 3, none⟩ = some (.slice B dn dc) ∧ w'.cell? ⟨w.heap.size + 1, 0, none⟩ = some (.slice AT tn tc) ∧ w'.cell? ⟨w.heap.size + 1, 1, none⟩ = some (.int .i64 r.a) ∧ w'.cell? ⟨w.heap.size + 1, 2, none⟩ = some (.int .i64 r.b) ∧ w'.cell? ⟨w.heap.size + 1, 3, none⟩ = some (.int .i64 r.nc) ∧ w'.cell? ⟨w.heap.size + 1, 4, none⟩ = some (.int .i64 r.dn) ∧ w'.cell? ⟨w.heap.size + 1, 5, none⟩ = some (.int .i64 r.br) ∧ w'.cell? ⟨w.heap.size + 1, 6, none⟩ = some (.int .i64 r.em) ∧ w'.cell? ⟨w.heap.size + 1, 7, none⟩ = some (.int .i64 r.pa) ∧ w'.cell? ⟨w.heap.size + 1, 8, none⟩ = some (.int .i64 r.sc))) (by kernel_rfl) (HS.out _ (Below.refl _ _).drew) (fun hHeld => ?_)
  have hT0 : Below y3v4.heap.size y3v4 y3v4.drew := (Below.refl _ _).drew
  generalize hdr : y3v4.drew = y4v0 at *
  clear hdr
  refine tkH 0 ⟨some 39, _, _, _, _, _⟩ ?_ rfl ?_ (by assumption) ?_
  rotate_left
  · (intro w hSw; (try dsimp only at hSw); go_simp; all_goals with_reducible rfl)
  try simp only [Act.put, sA, sB, sC]
  refine tkH 2 ⟨some 41, _, _, _, _, _⟩ ?_ rfl ?_ (by assumption) ?_
  rotate_left
  · (intro w hSw; (try dsimp only at hSw); go_simp; all_goals with_reducible rfl)
  try simp only [Act.put, sA, sB, sC]
  refine tkH 4 ⟨some 43, _, _, _, _, _⟩ ?_ rfl ?_ (by assumption) ?_
  rotate_left
  · (intro w hSw; (try dsimp only at hSw); go_simp; all_goals with_reducible rfl)
  try simp only [Act.put, sA, sB, sC]
  refine wpAnyH_ready (rs := [1]) (by kernel_rfl) (by simp) ?_
  refine AllReadyH.cons rfl (fun K hK => ?_) (AllReadyH.nil)
  go_simp
  refine (copyP_is nm s G D A B gn gc dn dc _ hgn hdn hg6 hd6 (Lib.hid (hG.out.below (hB4.trans (hT0.mono hB4.size)))) (Lib.hid (hD.out.below (hB4.trans (hT0.mono hB4.size)))) CG CD).mono ?_
  rintro e y4v1 ⟨A2, ca2, B2, cb2, rfl, hsg, hsd, hna, hnb, hby4v0⟩
  have hT1 : Below y3v4.heap.size y3v4 y4v1 := hT0.trans (hby4v0.mono hT0.size)
  have HG2 := Lib.hid hsg
  have HD2 := Lib.hid hsd
  clear hsg hsd hna hnb
  clear hby4v0
  go_wp2_with fail
  refine hK.out _ _ (HS.out _ hT1) (fun hHeld => ?_)
  clear hK K
  try simp only [Act.put, sA, sB, sC]
  refine wpAnyH_ready (rs := [3]) (by kernel_rfl) (by simp) ?_
  refine AllReadyH.cons rfl (fun K hK => ?_) (AllReadyH.nil)
  go_simp
  refine (copyR_is T r AT tn tc _ htn ht6 (Lib.hid (hT.out.below (hB4.trans (hT1.mono hB4.size)))) CT).mono ?_
  rintro e y4v2 ⟨AT2, ct2, rfl, hst, hby4v1⟩
  have hT2 : Below y3v4.heap.size y3v4 y4v2 := hT1.trans (hby4v1.mono hT1.size)
  replace HG2 := Lib.hid (HG2.out.below hby4v1)
  replace HD2 := Lib.hid (HD2.out.below hby4v1)
  have HT2 := Lib.hid hst
  clear hst
  clear hby4v1
  go_wp2_with fail
  refine hK.out _ _ (HS.out _ hT2) (fun hHeld => ?_)
  clear hK K
  try simp only [Act.put, sA, sB, sC]
  refine wpAnyH_ready (rs := [5]) (by kernel_rfl) (by simp) ?_
  refine AllReadyH.cons rfl (fun K hK => ?_) (AllReadyH.nil)
  go_simp
  refine (copyIn_is L C cc an _ han ha6 (Lib.hid (hC.out.below (hB4.trans (hT2.mono hB4.size)))) CA).mono ?_
  rintro e y4v3 ⟨C2, cc2, rfl, hsc, hnc, hnd, hby4v2⟩
  have hT3 : Below y3v4.heap.size y3v4 y4v3 := hT2.trans (hby4v2.mono hT2.size)
  replace HG2 := Lib.hid (HG2.out.below hby4v2)
  replace HD2 := Lib.hid (HD2.out.below hby4v2)
  replace HT2 := Lib.hid (HT2.out.below hby4v2)
  have HC2 := Lib.hid hsc
  clear hsc hnc hnd
  clear hby4v2
  go_wp2_with fail
  refine hK.out _ _ (HS.out _ hT3) (fun hHeld => ?_)
  clear hK K
  try simp only [Act.put, sA, sB, sC]
  refine wpAnyH_ready (rs := [6]) (by kernel_rfl) (by simp) ?_
  refine AllReadyH.cons rfl (fun K hK => ?_) (AllReadyH.nil)
  go_simp
  refine (LastTurn_t nm s G D A2 B2 gn ca2 dn cb2 T r AT2 tn ct2 L C2 an cc2 N kk NN gF vF sF _ hz hgn hgl hdn hdl HG2 HD2 htn htl HT2 han ha6 HC2 hE0 hE1 hE hF9 hok hru hS9 hNN hgL hk1 hk2 hk3 hkN hk0).mono ?_
  rintro e y4v4 ⟨rfl, hby4v3⟩
  have hT4 : Below y3v4.heap.size y3v4 y4v4 := hT3.trans (hby4v3.mono hT3.size)
  replace HG2 := Lib.hid (HG2.out.below hby4v3)
  replace HD2 := Lib.hid (HD2.out.below hby4v3)
  replace HT2 := Lib.hid (HT2.out.below hby4v3)
  replace HC2 := Lib.hid (HC2.out.below hby4v3)
  clear hby4v3
  go_wp2_with fail
  refine hK.out _ _ (HS.out _ hT4) (fun hHeld => ?_)
  clear hK K
  try simp only [Act.put, sA, sB, sC]
  refine tkH 7 ⟨some 38, _, _, _, _, _⟩ ?_ rfl ?_ (by assumption) ?_
  rotate_left
  · (intro w hSw; (try dsimp only at hSw); go_simp; all_goals with_reducible rfl)
  try simp only [Act.put, sA, sB, sC]
  refine tkH 8 ⟨some 46, _, _, _, _, _⟩ ?_ rfl ?_ (by assumption) ?_
  rotate_left
  · (intro w hSw; (try dsimp only at hSw); go_simp; all_goals with_reducible rfl)
  try simp only [Act.put, sA, sB, sC]
  refine tkH 9 ⟨some 47, _, _, _, _, _⟩ ?_ rfl ?_ (by assumption) ?_
  rotate_left
  · (intro w hSw; (try dsimp only at hSw); go_simp; all_goals with_reducible rfl)
  try simp only [Act.put, sA, sB, sC]
  refine tkH 10 ⟨some 9, _, _, _, _, _⟩ ?_ rfl ?_ (by assumption) ?_
  rotate_left
  · (intro w hSw; (try dsimp only at hSw); go_simp; all_goals with_reducible rfl)
  try simp only [Act.put, sA, sB, sC]
  refine tkH 11 ⟨some 10, _, _, _, _, _⟩ ?_ rfl ?_ (by assumption) ?_
  rotate_left
  · (intro w hSw; (try dsimp only at hSw); go_simp; all_goals with_reducible rfl)
  try simp only [Act.put, sA, sB, sC]
  refine wpAnyH_done (by kernel_rfl) ?_ _
  have hc5 : Below y3v4.heap.size y3v4 y4v4 := hT4
  have hB5 : Below w.heap.size w y4v4 := hB4.trans (hc5.mono hB4.size)
  have zu5 := hB5.size
  replace PB := Lib.hid (PB.out.below hc5)
  replace RB := Lib.hid (RB.out.below hc5)
  clear PB_4_0 PB_4_1 PB_4_2 PB_4_3 lPB_4 nPB_4 mPB_4 RB_4_0 RB_4_1 RB_4_2 RB_4_3 RB_4_4 RB_4_5 RB_4_6 RB_4_7 RB_4_8 lRB_4 nRB_4 mRB_4
  clear HS hHeld hT0 hT1 hT2 hT3 hT4 hB4 zu4 hc4
  obtain ⟨PB_5_0, PB_5_1, PB_5_2, PB_5_3⟩ := b4 PB.out
  have lPB_5 := PB.out.lt
  have nPB_5 : y4v4.heap.size ≠ w.heap.size := by omega
  have mPB_5 : w.heap.size ≠ y4v4.heap.size := by omega
  obtain ⟨RB_5_0, RB_5_1, RB_5_2, RB_5_3, RB_5_4, RB_5_5, RB_5_6, RB_5_7, RB_5_8⟩ := b9 RB.out
  have lRB_5 := RB.out.lt
  have nRB_5 : y4v4.heap.size ≠ w.heap.size + 1 := by omega
  have mRB_5 : w.heap.size + 1 ≠ y4v4.heap.size := by omega
  clear HG2
  clear HD2
  clear HT2
  clear HC2
  go_wp2_with fail
  refine (refBoth_any nm s G D A B gn gc dn dc T r AT tn tc N 0 0 0 _ hz6 hgn hgl hdn hdl (Lib.hid (hG.out.below (by (repeat (first | (with_reducible refine Below.drew ?_) | (with_reducible refine below_drewN ?_ _) | (with_reducible refine Below.alloc ?_ (by first | omega | (simp; done) | (simp; omega) | (simp at *; omega)) _) | (with_reducible refine Below.setCell ?_ (by first | omega | (simp; done) | (simp; omega) | (simp at *; omega)) _) | (with_reducible exact Below.refl _ _) | (with_reducible assumption) | (with_reducible refine Below.trans ?_ (Below.mono (by assumption) (by first | omega | (simp; done) | (simp; omega) | (simp at *; omega))))))))) (Lib.hid (hD.out.below (by (repeat (first | (with_reducible refine Below.drew ?_) | (with_reducible refine below_drewN ?_ _) | (with_reducible refine Below.alloc ?_ (by first | omega | (simp; done) | (simp; omega) | (simp at *; omega)) _) | (with_reducible refine Below.setCell ?_ (by first | omega | (simp; done) | (simp; omega) | (simp at *; omega)) _) | (with_reducible exact Below.refl _ _) | (with_reducible assumption) | (with_reducible refine Below.trans ?_ (Below.mono (by assumption) (by first | omega | (simp; done) | (simp; omega) | (simp at *; omega))))))))) hE0 htn htl (Lib.hid (hT.out.below (by (repeat (first | (with_reducible refine Below.drew ?_) | (with_reducible refine below_drewN ?_ _) | (with_reducible refine Below.alloc ?_ (by first | omega | (simp; done) | (simp; omega) | (simp at *; omega)) _) | (with_reducible refine Below.setCell ?_ (by first | omega | (simp; done) | (simp; omega) | (simp at *; omega)) _) | (with_reducible exact Below.refl _ _) | (with_reducible assumption) | (with_reducible refine Below.trans ?_ (Below.mono (by assumption) (by first | omega | (simp; done) | (simp; omega) | (simp at *; omega))))))))) hE1 hEB).mono ?_
  rintro e x6 ⟨rfl, hb6⟩
  have hc6 : Below y4v4.heap.size y4v4 x6 := hb6
  have hB6 : Below w.heap.size w x6 := hB5.trans (hc6.mono hB5.size)
  have zu6 := hB6.size
  replace PB := Lib.hid (PB.out.below hc6)
  replace RB := Lib.hid (RB.out.below hc6)
  clear PB_5_0 PB_5_1 PB_5_2 PB_5_3 lPB_5 nPB_5 mPB_5 RB_5_0 RB_5_1 RB_5_2 RB_5_3 RB_5_4 RB_5_5 RB_5_6 RB_5_7 RB_5_8 lRB_5 nRB_5 mRB_5
  clear hb6 hB5 zu5 hc5
  obtain ⟨PB_6_0, PB_6_1, PB_6_2, PB_6_3⟩ := b4 PB.out
  have lPB_6 := PB.out.lt
  have nPB_6 : x6.heap.size ≠ w.heap.size := by omega
  have mPB_6 : w.heap.size ≠ x6.heap.size := by omega
  obtain ⟨RB_6_0, RB_6_1, RB_6_2, RB_6_3, RB_6_4, RB_6_5, RB_6_6, RB_6_7, RB_6_8⟩ := b9 RB.out
  have lRB_6 := RB.out.lt
  have nRB_6 : x6.heap.size ≠ w.heap.size + 1 := by omega
  have mRB_6 : w.heap.size + 1 ≠ x6.heap.size := by omega
  go_wp2_with fail
  refine (refAmt_is nm s A B gn gc dn dc L C an cc 0 _ hgl han ha6 (Lib.hid (hC.out.below (by (repeat (first | (with_reducible refine Below.drew ?_) | (with_reducible refine below_drewN ?_ _) | (with_reducible refine Below.alloc ?_ (by first | omega | (simp; done) | (simp; omega) | (simp at *; omega)) _) | (with_reducible refine Below.setCell ?_ (by first | omega | (simp; done) | (simp; omega) | (simp at *; omega)) _) | (with_reducible exact Below.refl _ _) | (with_reducible assumption) | (with_reducible refine Below.trans ?_ (Below.mono (by assumption) (by first | omega | (simp; done) | (simp; omega) | (simp at *; omega))))))))) hEA).mono ?_
  rintro e x7 ⟨rfl, hb7⟩
  have hc7 : Below x6.heap.size x6 x7 := hb7
  have hB7 : Below w.heap.size w x7 := hB6.trans (hc7.mono hB6.size)
  have zu7 := hB7.size
  replace PB := Lib.hid (PB.out.below hc7)
  replace RB := Lib.hid (RB.out.below hc7)
  clear PB_6_0 PB_6_1 PB_6_2 PB_6_3 lPB_6 nPB_6 mPB_6 RB_6_0 RB_6_1 RB_6_2 RB_6_3 RB_6_4 RB_6_5 RB_6_6 RB_6_7 RB_6_8 lRB_6 nRB_6 mRB_6
  clear hb7 hB6 zu6 hc6
  obtain ⟨PB_7_0, PB_7_1, PB_7_2, PB_7_3⟩ := b4 PB.out
  have lPB_7 := PB.out.lt
  have nPB_7 : x7.heap.size ≠ w.heap.size := by omega
  have mPB_7 : w.heap.size ≠ x7.heap.size := by omega
  obtain ⟨RB_7_0, RB_7_1, RB_7_2, RB_7_3, RB_7_4, RB_7_5, RB_7_6, RB_7_7, RB_7_8⟩ := b9 RB.out
  have lRB_7 := RB.out.lt
  have nRB_7 : x7.heap.size ≠ w.heap.size + 1 := by omega
  have mRB_7 : w.heap.size + 1 ≠ x7.heap.size := by omega
  go_wp2_with fail
  refine (followed_is nm s G D A B gn gc dn dc T r AT tn tc N 0 0 0 0 _ hz6 hgn hgl hdn hdl (Lib.hid (hG.out.below (by (repeat (first | (with_reducible refine Below.drew ?_) | (with_reducible refine below_drewN ?_ _) | (with_reducible refine Below.alloc ?_ (by first | omega | (simp; done) | (simp; omega) | (simp at *; omega)) _) | (with_reducible refine Below.setCell ?_ (by first | omega | (simp; done) | (simp; omega) | (simp at *; omega)) _) | (with_reducible exact Below.refl _ _) | (with_reducible assumption) | (with_reducible refine Below.trans ?_ (Below.mono (by assumption) (by first | omega | (simp; done) | (simp; omega) | (simp at *; omega))))))))) (Lib.hid (hD.out.below (by (repeat (first | (with_reducible refine Below.drew ?_) | (with_reducible refine below_drewN ?_ _) | (with_reducible refine Below.alloc ?_ (by first | omega | (simp; done) | (simp; omega) | (simp at *; omega)) _) | (with_reducible refine Below.setCell ?_ (by first | omega | (simp; done) | (simp; omega) | (simp at *; omega)) _) | (with_reducible exact Below.refl _ _) | (with_reducible assumption) | (with_reducible refine Below.trans ?_ (Below.mono (by assumption) (by first | omega | (simp; done) | (simp; omega) | (simp at *; omega))))))))) htn htl (Lib.hid (hT.out.below (by (repeat (first | (with_reducible refine Below.drew ?_) | (with_reducible refine below_drewN ?_ _) | (with_reducible refine Below.alloc ?_ (by first | omega | (simp; done) | (simp; omega) | (simp at *; omega)) _) | (with_reducible refine Below.setCell ?_ (by first | omega | (simp; done) | (simp; omega) | (simp at *; omega)) _) | (with_reducible exact Below.refl _ _) | (with_reducible assumption) | (with_reducible refine Below.trans ?_ (Below.mono (by assumption) (by first | omega | (simp; done) | (simp; omega) | (simp at *; omega))))))))) hE0 hE1 hF2 hE3).mono ?_
  rintro e x8 ⟨rfl, hb8⟩
  have hc8 : Below x7.heap.size x7 x8 := hb8
  have hB8 : Below w.heap.size w x8 := hB7.trans (hc8.mono hB7.size)
  have zu8 := hB8.size
  replace PB := Lib.hid (PB.out.below hc8)
  replace RB := Lib.hid (RB.out.below hc8)
  clear PB_7_0 PB_7_1 PB_7_2 PB_7_3 lPB_7 nPB_7 mPB_7 RB_7_0 RB_7_1 RB_7_2 RB_7_3 RB_7_4 RB_7_5 RB_7_6 RB_7_7 RB_7_8 lRB_7 nRB_7 mRB_7
  clear hb8 hB7 zu7 hc7
  obtain ⟨PB_8_0, PB_8_1, PB_8_2, PB_8_3⟩ := b4 PB.out
  have lPB_8 := PB.out.lt
  have nPB_8 : x8.heap.size ≠ w.heap.size := by omega
  have mPB_8 : w.heap.size ≠ x8.heap.size := by omega
  obtain ⟨RB_8_0, RB_8_1, RB_8_2, RB_8_3, RB_8_4, RB_8_5, RB_8_6, RB_8_7, RB_8_8⟩ := b9 RB.out
  have lRB_8 := RB.out.lt
  have nRB_8 : x8.heap.size ≠ w.heap.size + 1 := by omega
  have mRB_8 : w.heap.size + 1 ≠ x8.heap.size := by omega
  go_wp2_with fail
  refine (refFails_is nm s G D A B gn gc dn dc T r AT tn tc L C an cc kk NN gF vF sF (kk : Int) _ hgn hdn (Lib.hid (hG.out.below (by (repeat (first | (with_reducible refine Below.drew ?_) | (with_reducible refine below_drewN ?_ _) | (with_reducible refine Below.alloc ?_ (by first | omega | (simp; done) | (simp; omega) | (simp at *; omega)) _) | (with_reducible refine Below.setCell ?_ (by first | omega | (simp; done) | (simp; omega) | (simp at *; omega)) _) | (with_reducible exact Below.refl _ _) | (with_reducible assumption) | (with_reducible refine Below.trans ?_ (Below.mono (by assumption) (by first | omega | (simp; done) | (simp; omega) | (simp at *; omega))))))))) (Lib.hid (hD.out.below (by (repeat (first | (with_reducible refine Below.drew ?_) | (with_reducible refine below_drewN ?_ _) | (with_reducible refine Below.alloc ?_ (by first | omega | (simp; done) | (simp; omega) | (simp at *; omega)) _) | (with_reducible refine Below.setCell ?_ (by first | omega | (simp; done) | (simp; omega) | (simp at *; omega)) _) | (with_reducible exact Below.refl _ _) | (with_reducible assumption) | (with_reducible refine Below.trans ?_ (Below.mono (by assumption) (by first | omega | (simp; done) | (simp; omega) | (simp at *; omega))))))))) han ha6 (Lib.hid (hC.out.below (by (repeat (first | (with_reducible refine Below.drew ?_) | (with_reducible refine below_drewN ?_ _) | (with_reducible refine Below.alloc ?_ (by first | omega | (simp; done) | (simp; omega) | (simp at *; omega)) _) | (with_reducible refine Below.setCell ?_ (by first | omega | (simp; done) | (simp; omega) | (simp at *; omega)) _) | (with_reducible exact Below.refl _ _) | (with_reducible assumption) | (with_reducible refine Below.trans ?_ (Below.mono (by assumption) (by first | omega | (simp; done) | (simp; omega) | (simp at *; omega))))))))) hF9 hok hru hS9 hNN hgL hk1 hk2 hk3 (Lib.hid (if_pos hkN.out))).mono ?_
  rintro e x9 ⟨rfl, hb9⟩
  have hc9 : Below x8.heap.size x8 x9 := hb9
  have hB9 : Below w.heap.size w x9 := hB8.trans (hc9.mono hB8.size)
  have zu9 := hB9.size
  replace PB := Lib.hid (PB.out.below hc9)
  replace RB := Lib.hid (RB.out.below hc9)
  clear PB_8_0 PB_8_1 PB_8_2 PB_8_3 lPB_8 nPB_8 mPB_8 RB_8_0 RB_8_1 RB_8_2 RB_8_3 RB_8_4 RB_8_5 RB_8_6 RB_8_7 RB_8_8 lRB_8 nRB_8 mRB_8
  clear hb9 hB8 zu8 hc8
  obtain ⟨PB_9_0, PB_9_1, PB_9_2, PB_9_3⟩ := b4 PB.out
  have lPB_9 := PB.out.lt
  have nPB_9 : x9.heap.size ≠ w.heap.size := by omega
  have mPB_9 : w.heap.size ≠ x9.heap.size := by omega
  obtain ⟨RB_9_0, RB_9_1, RB_9_2, RB_9_3, RB_9_4, RB_9_5, RB_9_6, RB_9_7, RB_9_8⟩ := b9 RB.out
  have lRB_9 := RB.out.lt
  have nRB_9 : x9.heap.size ≠ w.heap.size + 1 := by omega
  have mRB_9 : w.heap.size + 1 ≠ x9.heap.size := by omega
  go_wp2
  go_ret
  exact ⟨rfl, hB9⟩
set_option maxRecDepth 100000 in
set_option maxHeartbeats 8000000 in
theorem sv_z (nm : ByteArray) (s : Int) (G : List Ga) (D : List Le) (A B : Option Addr) (gn gc dn dc : Nat) (T : List Ox) (r : Ru) (AT : Option Addr) (tn tc : Nat) (L : List Int) (C : Option Addr) (an cc : Nat) (sb : Bool) (N : Nat) (NN : Nat) (gF : Nat → Nat) (vF sF : Nat → Int) (w : World) (hz : nm.size ≤ 9223372036854775807) (hgn : Hid (gn = G.length)) (hgl : gn ≤ 9223372036854775807) (hdn : Hid (dn = D.length)) (hdl : dn ≤ 9223372036854775807) (hG : Hid (SlRows gaV 2 w A G)) (hD : Hid (SlRows leV 3 w B D)) (CG : Hid (A = none → gn = 0 ∧ gc = 0)) (CD : Hid (B = none → dn = 0 ∧ dc = 0)) (htn : Hid (tn = T.length)) (htl : tn ≤ 9223372036854775807) (hT : Hid (SlRows oxV 2 w AT T)) (CT : Hid (AT = none → tn = 0 ∧ tc = 0)) (han : Hid (an = L.length)) (hal : an ≤ 9223372036854775807) (hC : Hid (SlRows inV 1 w C L)) (CA : Hid (C = none → an = 0 ∧ cc = 0)) (hS1 : Hid (shortB nm.size dn gn = true)) (hS : Hid (shortB nm.size dn gn = sb)) (hE0 : Hid (plnP nm s G D = (N, 0))) (hb : Hid (briefV sb 0 (secT D dn) = true)) (hF : Hid (fewB tn = true)) (ha : an ≤ 12) (hE1 : Hid (ruE T r = 0)) (hE : Hid (firE [0, 0, amE L gn, if 20000 < secT D dn then (8 : Int) else 0] = 0)) (hEB : Hid (firE [0, 0] = 0)) (hEA : Hid (amE L gn = 0)) (hF2 : Hid ((if 20000 < secT D dn then (8 : Int) else 0) = 0)) (hE3 : Hid (firE [0, 0, 0] = 0)) (hF9 : Hid (∀ i : Nat, gF i = ndG s G D (0 + (i : Int)) ∧ vF i = ndV r s G D (0 + (i : Int)) ∧ sF i = 0 + (i : Int))) (hok : Hid (PlnOk nm s G D)) (hru : Hid (RuOk T r)) (hS9 : Hid (secT D D.length ≤ 20000)) (hNN : Hid (ndN D 0 = NN)) (hgL : Hid (∀ i, i < NN → gF i < an)) (hk1 : Hid (0 ≤ NN)) (hk2 : Hid (∀ j, j < 0 → vF j ≤ L.getD (gF j) 0)) (hk3 : Hid (0 < NN → L.getD (gF 0) 0 < vF 0)) (hkN : Hid (0 < NN)) :
    Calls Tryz.prog 4 #[.agg #[.string nm, .int .i64 s, .slice A gn gc, .slice B dn dc], .agg #[.slice AT tn tc, .int .i64 r.a, .int .i64 r.b, .int .i64 r.nc, .int .i64 r.dn, .int .i64 r.br, .int .i64 r.em, .int .i64 r.pa, .int .i64 r.sc], .slice C an cc] w fun e w' => e = .returned (.bool true) ∧ Below w.heap.size w w' := by
  have hsb := shortB_le hS1.out
  have hz6 : nm.size ≤ 1000000 := by omega
  have hg6 : gn ≤ 1000000 := by omega
  have hd6 : dn ≤ 1000000 := by omega
  have ht22 : tn ≤ 22 := fewB_le hF.out
  have ht6 : tn ≤ 1000000 := by omega
  have ha6 : an ≤ 1000000 := by omega
  have ha0 : ¬ (12 : Int) < (an : Int) := by omega
  go_enter Tryz.func4, Tryz.ntmps4
  go_wp2_with fail
  refine (awake_any _).mono ?_
  rintro e x1 ⟨rfl, hb1⟩
  have hc1 : Below w.heap.size w x1 := (((Below.refl _ _).alloc (by first | exact Nat.le_refl _ | (simp; done) | (simp; omega)) _).alloc (by first | exact Nat.le_refl _ | (simp; done) | (simp; omega)) _).trans (hb1.mono (by first | exact Nat.le_refl _ | (simp; done) | (simp; omega)))
  have hB1 : Below w.heap.size w x1 := hc1
  have zu1 := hB1.size
  have PB : Hid (BlkF x1 w.heap.size (w.heap.size) [.string nm, .int .i64 s, .slice A gn gc, .slice B dn dc]) := Lib.hid (((BlkF.made (B := w.heap.size) w [.string nm, .int .i64 s, .slice A gn gc, .slice B dn dc] 25 (by first | exact Nat.le_refl _ | (simp; done) | (simp; omega))).below ((Below.refl _ _).alloc (Nat.le_refl _) _)).below hb1)
  have zPB1 := PB.out.lt
  have RB : Hid (BlkF x1 w.heap.size (w.heap.size + 1) [.slice AT tn tc, .int .i64 r.a, .int .i64 r.b, .int .i64 r.nc, .int .i64 r.dn, .int .i64 r.br, .int .i64 r.em, .int .i64 r.pa, .int .i64 r.sc]) := Lib.hid (by have := (BlkF.made (B := w.heap.size) (w.alloc (.cells #[.string nm, .int .i64 s, .slice A gn gc, .slice B dn dc] 25)) [.slice AT tn tc, .int .i64 r.a, .int .i64 r.b, .int .i64 r.nc, .int .i64 r.dn, .int .i64 r.br, .int .i64 r.em, .int .i64 r.pa, .int .i64 r.sc] 30 (by first | exact Nat.le_refl _ | (simp; done) | (simp; omega))).below hb1; simpa using this)
  have zRB1 := RB.out.lt
  clear hb1
  obtain ⟨PB_1_0, PB_1_1, PB_1_2, PB_1_3⟩ := b4 PB.out
  have lPB_1 := PB.out.lt
  have nPB_1 : x1.heap.size ≠ w.heap.size := by omega
  have mPB_1 : w.heap.size ≠ x1.heap.size := by omega
  obtain ⟨RB_1_0, RB_1_1, RB_1_2, RB_1_3, RB_1_4, RB_1_5, RB_1_6, RB_1_7, RB_1_8⟩ := b9 RB.out
  have lRB_1 := RB.out.lt
  have nRB_1 : x1.heap.size ≠ w.heap.size + 1 := by omega
  have mRB_1 : w.heap.size + 1 ≠ x1.heap.size := by omega
  go_wp2_with fail
  refine (Brief_is nm s G D A B gn gc dn dc sb true N 0 _ hz hgn hgl hdn hdl (Lib.hid (hG.out.below (by (repeat (first | (with_reducible refine Below.drew ?_) | (with_reducible refine below_drewN ?_ _) | (with_reducible refine Below.alloc ?_ (by first | omega | (simp; done) | (simp; omega) | (simp at *; omega)) _) | (with_reducible refine Below.setCell ?_ (by first | omega | (simp; done) | (simp; omega) | (simp at *; omega)) _) | (with_reducible exact Below.refl _ _) | (with_reducible assumption) | (with_reducible refine Below.trans ?_ (Below.mono (by assumption) (by first | omega | (simp; done) | (simp; omega) | (simp at *; omega))))))))) (Lib.hid (hD.out.below (by (repeat (first | (with_reducible refine Below.drew ?_) | (with_reducible refine below_drewN ?_ _) | (with_reducible refine Below.alloc ?_ (by first | omega | (simp; done) | (simp; omega) | (simp at *; omega)) _) | (with_reducible refine Below.setCell ?_ (by first | omega | (simp; done) | (simp; omega) | (simp at *; omega)) _) | (with_reducible exact Below.refl _ _) | (with_reducible assumption) | (with_reducible refine Below.trans ?_ (Below.mono (by assumption) (by first | omega | (simp; done) | (simp; omega) | (simp at *; omega))))))))) hS hE0 hb).mono ?_
  rintro e x2 ⟨rfl, hb2⟩
  have hc2 : Below x1.heap.size x1 x2 := hb2
  have hB2 : Below w.heap.size w x2 := hB1.trans (hc2.mono hB1.size)
  have zu2 := hB2.size
  replace PB := Lib.hid (PB.out.below hc2)
  replace RB := Lib.hid (RB.out.below hc2)
  clear PB_1_0 PB_1_1 PB_1_2 PB_1_3 lPB_1 nPB_1 mPB_1 RB_1_0 RB_1_1 RB_1_2 RB_1_3 RB_1_4 RB_1_5 RB_1_6 RB_1_7 RB_1_8 lRB_1 nRB_1 mRB_1
  clear hb2 hB1 zu1 hc1
  obtain ⟨PB_2_0, PB_2_1, PB_2_2, PB_2_3⟩ := b4 PB.out
  have lPB_2 := PB.out.lt
  have nPB_2 : x2.heap.size ≠ w.heap.size := by omega
  have mPB_2 : w.heap.size ≠ x2.heap.size := by omega
  obtain ⟨RB_2_0, RB_2_1, RB_2_2, RB_2_3, RB_2_4, RB_2_5, RB_2_6, RB_2_7, RB_2_8⟩ := b9 RB.out
  have lRB_2 := RB.out.lt
  have nRB_2 : x2.heap.size ≠ w.heap.size + 1 := by omega
  have mRB_2 : w.heap.size + 1 ≠ x2.heap.size := by omega
  go_wp2_with fail
  refine (few_is r AT tn tc true _ htl hF).mono ?_
  rintro e x3 ⟨rfl, hb3⟩
  have hc3 : Below x2.heap.size x2 x3 := hb3
  have hB3 : Below w.heap.size w x3 := hB2.trans (hc3.mono hB2.size)
  have zu3 := hB3.size
  replace PB := Lib.hid (PB.out.below hc3)
  replace RB := Lib.hid (RB.out.below hc3)
  clear PB_2_0 PB_2_1 PB_2_2 PB_2_3 lPB_2 nPB_2 mPB_2 RB_2_0 RB_2_1 RB_2_2 RB_2_3 RB_2_4 RB_2_5 RB_2_6 RB_2_7 RB_2_8 lRB_2 nRB_2 mRB_2
  clear hb3 hB2 zu2 hc2
  obtain ⟨PB_3_0, PB_3_1, PB_3_2, PB_3_3⟩ := b4 PB.out
  have lPB_3 := PB.out.lt
  have nPB_3 : x3.heap.size ≠ w.heap.size := by omega
  have mPB_3 : w.heap.size ≠ x3.heap.size := by omega
  obtain ⟨RB_3_0, RB_3_1, RB_3_2, RB_3_3, RB_3_4, RB_3_5, RB_3_6, RB_3_7, RB_3_8⟩ := b9 RB.out
  have lRB_3 := RB.out.lt
  have nRB_3 : x3.heap.size ≠ w.heap.size + 1 := by omega
  have mRB_3 : w.heap.size + 1 ≠ x3.heap.size := by omega
  go_upto_region 5 with (fail)
  have HS : Hid (∀ y, Below x3.heap.size x3 y → y.cell? ⟨w.heap.size, 0, none⟩ = some (.string nm) ∧ y.cell? ⟨w.heap.size, 1, none⟩ = some (.int .i64 s) ∧ y.cell? ⟨w.heap.size, 2, none⟩ = some (.slice A gn gc) ∧ y.cell? ⟨w.heap.size, 3, none⟩ = some (.slice B dn dc) ∧ y.cell? ⟨w.heap.size + 1, 0, none⟩ = some (.slice AT tn tc) ∧ y.cell? ⟨w.heap.size + 1, 1, none⟩ = some (.int .i64 r.a) ∧ y.cell? ⟨w.heap.size + 1, 2, none⟩ = some (.int .i64 r.b) ∧ y.cell? ⟨w.heap.size + 1, 3, none⟩ = some (.int .i64 r.nc) ∧ y.cell? ⟨w.heap.size + 1, 4, none⟩ = some (.int .i64 r.dn) ∧ y.cell? ⟨w.heap.size + 1, 5, none⟩ = some (.int .i64 r.br) ∧ y.cell? ⟨w.heap.size + 1, 6, none⟩ = some (.int .i64 r.em) ∧ y.cell? ⟨w.heap.size + 1, 7, none⟩ = some (.int .i64 r.pa) ∧ y.cell? ⟨w.heap.size + 1, 8, none⟩ = some (.int .i64 r.sc)) := Lib.hid fun y hy => ⟨(hy.cell (p := ⟨w.heap.size, 0, none⟩) lPB_3).trans PB_3_0, (hy.cell (p := ⟨w.heap.size, 1, none⟩) lPB_3).trans PB_3_1, (hy.cell (p := ⟨w.heap.size, 2, none⟩) lPB_3).trans PB_3_2, (hy.cell (p := ⟨w.heap.size, 3, none⟩) lPB_3).trans PB_3_3, (hy.cell (p := ⟨w.heap.size + 1, 0, none⟩) lRB_3).trans RB_3_0, (hy.cell (p := ⟨w.heap.size + 1, 1, none⟩) lRB_3).trans RB_3_1, (hy.cell (p := ⟨w.heap.size + 1, 2, none⟩) lRB_3).trans RB_3_2, (hy.cell (p := ⟨w.heap.size + 1, 3, none⟩) lRB_3).trans RB_3_3, (hy.cell (p := ⟨w.heap.size + 1, 4, none⟩) lRB_3).trans RB_3_4, (hy.cell (p := ⟨w.heap.size + 1, 5, none⟩) lRB_3).trans RB_3_5, (hy.cell (p := ⟨w.heap.size + 1, 6, none⟩) lRB_3).trans RB_3_6, (hy.cell (p := ⟨w.heap.size + 1, 7, none⟩) lRB_3).trans RB_3_7, (hy.cell (p := ⟨w.heap.size + 1, 8, none⟩) lRB_3).trans RB_3_8⟩
  refine wp_region_held_drew (S := (fun w' => w'.cell? ⟨w.heap.size, 0, none⟩ = some (.string nm) ∧ w'.cell? ⟨w.heap.size, 1, none⟩ = some (.int .i64 s) ∧ w'.cell? ⟨w.heap.size, 2, none⟩ = some (.slice A gn gc) ∧ w'.cell? ⟨w.heap.size, 3, none⟩ = some (.slice B dn dc) ∧ w'.cell? ⟨w.heap.size + 1, 0, none⟩ = some (.slice AT tn tc) ∧ w'.cell? ⟨w.heap.size + 1, 1, none⟩ = some (.int .i64 r.a) ∧ w'.cell? ⟨w.heap.size + 1, 2, none⟩ = some (.int .i64 r.b) ∧ w'.cell? ⟨w.heap.size + 1, 3, none⟩ = some (.int .i64 r.nc) ∧ w'.cell? ⟨w.heap.size + 1, 4, none⟩ = some (.int .i64 r.dn) ∧ w'.cell? ⟨w.heap.size + 1, 5, none⟩ = some (.int .i64 r.br) ∧ w'.cell? ⟨w.heap.size + 1, 6, none⟩ = some (.int .i64 r.em) ∧ w'.cell? ⟨w.heap.size + 1, 7, none⟩ = some (.int .i64 r.pa) ∧ w'.cell? ⟨w.heap.size + 1, 8, none⟩ = some (.int .i64 r.sc))) (by kernel_rfl) (HS.out _ (Below.refl _ _).drew) (fun hHeld => ?_)
  have hT0 : Below x3.heap.size x3 x3.drew := (Below.refl _ _).drew
  generalize hdr : x3.drew = y3v0 at *
  clear hdr
  refine tkH 0 ⟨some 29, _, _, _, _, _⟩ ?_ rfl ?_ (by assumption) ?_
  rotate_left
  · (intro w hSw; (try dsimp only at hSw); go_simp; all_goals with_reducible rfl)
  try simp only [Act.put, sA, sB, sC]
  refine tkH 2 ⟨some 31, _, _, _, _, _⟩ ?_ rfl ?_ (by assumption) ?_
  rotate_left
  · (intro w hSw; (try dsimp only at hSw); go_simp; all_goals with_reducible rfl)
  try simp only [Act.put, sA, sB, sC]
  refine tkH 4 ⟨some 33, _, _, _, _, _⟩ ?_ rfl ?_ (by assumption) ?_
  rotate_left
  · (intro w hSw; (try dsimp only at hSw); go_simp; all_goals with_reducible rfl)
  try simp only [Act.put, sA, sB, sC]
  refine wpAnyH_ready (rs := [1]) (by kernel_rfl) (by simp) ?_
  refine AllReadyH.cons rfl (fun K hK => ?_) (AllReadyH.nil)
  go_simp
  refine (copyP_is nm s G D A B gn gc dn dc _ hgn hdn hg6 hd6 (Lib.hid (hG.out.below (hB3.trans (hT0.mono hB3.size)))) (Lib.hid (hD.out.below (hB3.trans (hT0.mono hB3.size)))) CG CD).mono ?_
  rintro e y3v1 ⟨A1, ca1, B1, cb1, rfl, hsg, hsd, hna, hnb, hby3v0⟩
  have hT1 : Below x3.heap.size x3 y3v1 := hT0.trans (hby3v0.mono hT0.size)
  have HG1 := Lib.hid hsg
  have HD1 := Lib.hid hsd
  clear hsg hsd hna hnb
  clear hby3v0
  go_wp2_with fail
  refine hK.out _ _ (HS.out _ hT1) (fun hHeld => ?_)
  clear hK K
  try simp only [Act.put, sA, sB, sC]
  refine wpAnyH_ready (rs := [3]) (by kernel_rfl) (by simp) ?_
  refine AllReadyH.cons rfl (fun K hK => ?_) (AllReadyH.nil)
  go_simp
  refine (copyR_is T r AT tn tc _ htn ht6 (Lib.hid (hT.out.below (hB3.trans (hT1.mono hB3.size)))) CT).mono ?_
  rintro e y3v2 ⟨AT1, ct1, rfl, hst, hby3v1⟩
  have hT2 : Below x3.heap.size x3 y3v2 := hT1.trans (hby3v1.mono hT1.size)
  replace HG1 := Lib.hid (HG1.out.below hby3v1)
  replace HD1 := Lib.hid (HD1.out.below hby3v1)
  have HT1 := Lib.hid hst
  clear hst
  clear hby3v1
  go_wp2_with fail
  refine hK.out _ _ (HS.out _ hT2) (fun hHeld => ?_)
  clear hK K
  try simp only [Act.put, sA, sB, sC]
  refine wpAnyH_ready (rs := [5]) (by kernel_rfl) (by simp) ?_
  refine AllReadyH.cons rfl (fun K hK => ?_) (AllReadyH.nil)
  go_simp
  refine (copyIn_is L C cc an _ han ha6 (Lib.hid (hC.out.below (hB3.trans (hT2.mono hB3.size)))) CA).mono ?_
  rintro e y3v3 ⟨C1, cc1, rfl, hsc, hnc, hnd, hby3v2⟩
  have hT3 : Below x3.heap.size x3 y3v3 := hT2.trans (hby3v2.mono hT2.size)
  replace HG1 := Lib.hid (HG1.out.below hby3v2)
  replace HD1 := Lib.hid (HD1.out.below hby3v2)
  replace HT1 := Lib.hid (HT1.out.below hby3v2)
  have HC1 := Lib.hid hsc
  clear hsc hnc hnd
  clear hby3v2
  go_wp2_with fail
  refine hK.out _ _ (HS.out _ hT3) (fun hHeld => ?_)
  clear hK K
  try simp only [Act.put, sA, sB, sC]
  refine wpAnyH_ready (rs := [6]) (by kernel_rfl) (by simp) ?_
  refine AllReadyH.cons rfl (fun K hK => ?_) (AllReadyH.nil)
  go_simp
  refine (Survives_t nm s G D A1 B1 gn ca1 dn cb1 T r AT1 tn ct1 L C1 an cc1 N 0 NN gF vF sF _ hz hgn hgl hdn hdl HG1 HD1 htn htl HT1 han ha6 HC1 hE0 hE1 hE hF9 hok hru hS9 hNN hgL hk1 hk2 hk3 hkN).mono ?_
  rintro e y3v4 ⟨rfl, hby3v3⟩
  have hT4 : Below x3.heap.size x3 y3v4 := hT3.trans (hby3v3.mono hT3.size)
  replace HG1 := Lib.hid (HG1.out.below hby3v3)
  replace HD1 := Lib.hid (HD1.out.below hby3v3)
  replace HT1 := Lib.hid (HT1.out.below hby3v3)
  replace HC1 := Lib.hid (HC1.out.below hby3v3)
  clear hby3v3
  go_wp2_with fail
  refine hK.out _ _ (HS.out _ hT4) (fun hHeld => ?_)
  clear hK K
  try simp only [Act.put, sA, sB, sC]
  refine tkH 7 ⟨some 28, _, _, _, _, _⟩ ?_ rfl ?_ (by assumption) ?_
  rotate_left
  · (intro w hSw; (try dsimp only at hSw); go_simp; all_goals with_reducible rfl)
  try simp only [Act.put, sA, sB, sC]
  refine tkH 8 ⟨some 36, _, _, _, _, _⟩ ?_ rfl ?_ (by assumption) ?_
  rotate_left
  · (intro w hSw; (try dsimp only at hSw); go_simp; all_goals with_reducible rfl)
  try simp only [Act.put, sA, sB, sC]
  refine tkH 9 ⟨some 37, _, _, _, _, _⟩ ?_ rfl ?_ (by assumption) ?_
  rotate_left
  · (intro w hSw; (try dsimp only at hSw); go_simp; all_goals with_reducible rfl)
  try simp only [Act.put, sA, sB, sC]
  refine tkH 10 ⟨some 7, _, _, _, _, _⟩ ?_ rfl ?_ (by assumption) ?_
  rotate_left
  · (intro w hSw; (try dsimp only at hSw); go_simp; all_goals with_reducible rfl)
  try simp only [Act.put, sA, sB, sC]
  refine tkH 11 ⟨some 8, _, _, _, _, _⟩ ?_ rfl ?_ (by assumption) ?_
  rotate_left
  · (intro w hSw; (try dsimp only at hSw); go_simp; all_goals with_reducible rfl)
  try simp only [Act.put, sA, sB, sC]
  refine wpAnyH_done (by kernel_rfl) ?_ _
  have hc4 : Below x3.heap.size x3 y3v4 := hT4
  have hB4 : Below w.heap.size w y3v4 := hB3.trans (hc4.mono hB3.size)
  have zu4 := hB4.size
  replace PB := Lib.hid (PB.out.below hc4)
  replace RB := Lib.hid (RB.out.below hc4)
  clear PB_3_0 PB_3_1 PB_3_2 PB_3_3 lPB_3 nPB_3 mPB_3 RB_3_0 RB_3_1 RB_3_2 RB_3_3 RB_3_4 RB_3_5 RB_3_6 RB_3_7 RB_3_8 lRB_3 nRB_3 mRB_3
  clear HS hHeld hT0 hT1 hT2 hT3 hT4 hB3 zu3 hc3
  obtain ⟨PB_4_0, PB_4_1, PB_4_2, PB_4_3⟩ := b4 PB.out
  have lPB_4 := PB.out.lt
  have nPB_4 : y3v4.heap.size ≠ w.heap.size := by omega
  have mPB_4 : w.heap.size ≠ y3v4.heap.size := by omega
  obtain ⟨RB_4_0, RB_4_1, RB_4_2, RB_4_3, RB_4_4, RB_4_5, RB_4_6, RB_4_7, RB_4_8⟩ := b9 RB.out
  have lRB_4 := RB.out.lt
  have nRB_4 : y3v4.heap.size ≠ w.heap.size + 1 := by omega
  have mRB_4 : w.heap.size + 1 ≠ y3v4.heap.size := by omega
  clear HG1
  clear HD1
  clear HT1
  clear HC1
  go_upto_region 6 with (fail)
  have HS : Hid (∀ y, Below y3v4.heap.size y3v4 y → y.cell? ⟨w.heap.size, 0, none⟩ = some (.string nm) ∧ y.cell? ⟨w.heap.size, 1, none⟩ = some (.int .i64 s) ∧ y.cell? ⟨w.heap.size, 2, none⟩ = some (.slice A gn gc) ∧ y.cell? ⟨w.heap.size, 3, none⟩ = some (.slice B dn dc) ∧ y.cell? ⟨w.heap.size + 1, 0, none⟩ = some (.slice AT tn tc) ∧ y.cell? ⟨w.heap.size + 1, 1, none⟩ = some (.int .i64 r.a) ∧ y.cell? ⟨w.heap.size + 1, 2, none⟩ = some (.int .i64 r.b) ∧ y.cell? ⟨w.heap.size + 1, 3, none⟩ = some (.int .i64 r.nc) ∧ y.cell? ⟨w.heap.size + 1, 4, none⟩ = some (.int .i64 r.dn) ∧ y.cell? ⟨w.heap.size + 1, 5, none⟩ = some (.int .i64 r.br) ∧ y.cell? ⟨w.heap.size + 1, 6, none⟩ = some (.int .i64 r.em) ∧ y.cell? ⟨w.heap.size + 1, 7, none⟩ = some (.int .i64 r.pa) ∧ y.cell? ⟨w.heap.size + 1, 8, none⟩ = some (.int .i64 r.sc)) := Lib.hid fun y hy => ⟨(hy.cell (p := ⟨w.heap.size, 0, none⟩) lPB_4).trans PB_4_0, (hy.cell (p := ⟨w.heap.size, 1, none⟩) lPB_4).trans PB_4_1, (hy.cell (p := ⟨w.heap.size, 2, none⟩) lPB_4).trans PB_4_2, (hy.cell (p := ⟨w.heap.size, 3, none⟩) lPB_4).trans PB_4_3, (hy.cell (p := ⟨w.heap.size + 1, 0, none⟩) lRB_4).trans RB_4_0, (hy.cell (p := ⟨w.heap.size + 1, 1, none⟩) lRB_4).trans RB_4_1, (hy.cell (p := ⟨w.heap.size + 1, 2, none⟩) lRB_4).trans RB_4_2, (hy.cell (p := ⟨w.heap.size + 1, 3, none⟩) lRB_4).trans RB_4_3, (hy.cell (p := ⟨w.heap.size + 1, 4, none⟩) lRB_4).trans RB_4_4, (hy.cell (p := ⟨w.heap.size + 1, 5, none⟩) lRB_4).trans RB_4_5, (hy.cell (p := ⟨w.heap.size + 1, 6, none⟩) lRB_4).trans RB_4_6, (hy.cell (p := ⟨w.heap.size + 1, 7, none⟩) lRB_4).trans RB_4_7, (hy.cell (p := ⟨w.heap.size + 1, 8, none⟩) lRB_4).trans RB_4_8⟩
  refine wp_region_held_drew (S := (fun w' => w'.cell? ⟨w.heap.size, 0, none⟩ = some (.string nm) ∧ w'.cell? ⟨w.heap.size, 1, none⟩ = some (.int .i64 s) ∧ w'.cell? ⟨w.heap.size, 2, none⟩ = some (.slice A gn gc) ∧ w'.cell? ⟨w.heap.size, 3, none⟩ = some (.slice B dn dc) ∧ w'.cell? ⟨w.heap.size + 1, 0, none⟩ = some (.slice AT tn tc) ∧ w'.cell? ⟨w.heap.size + 1, 1, none⟩ = some (.int .i64 r.a) ∧ w'.cell? ⟨w.heap.size + 1, 2, none⟩ = some (.int .i64 r.b) ∧ w'.cell? ⟨w.heap.size + 1, 3, none⟩ = some (.int .i64 r.nc) ∧ w'.cell? ⟨w.heap.size + 1, 4, none⟩ = some (.int .i64 r.dn) ∧ w'.cell? ⟨w.heap.size + 1, 5, none⟩ = some (.int .i64 r.br) ∧ w'.cell? ⟨w.heap.size + 1, 6, none⟩ = some (.int .i64 r.em) ∧ w'.cell? ⟨w.heap.size + 1, 7, none⟩ = some (.int .i64 r.pa) ∧ w'.cell? ⟨w.heap.size + 1, 8, none⟩ = some (.int .i64 r.sc))) (by kernel_rfl) (HS.out _ (Below.refl _ _).drew) (fun hHeld => ?_)
  have hT0 : Below y3v4.heap.size y3v4 y3v4.drew := (Below.refl _ _).drew
  generalize hdr : y3v4.drew = y4v0 at *
  clear hdr
  refine tkH 0 ⟨some 39, _, _, _, _, _⟩ ?_ rfl ?_ (by assumption) ?_
  rotate_left
  · (intro w hSw; (try dsimp only at hSw); go_simp; all_goals with_reducible rfl)
  try simp only [Act.put, sA, sB, sC]
  refine tkH 2 ⟨some 41, _, _, _, _, _⟩ ?_ rfl ?_ (by assumption) ?_
  rotate_left
  · (intro w hSw; (try dsimp only at hSw); go_simp; all_goals with_reducible rfl)
  try simp only [Act.put, sA, sB, sC]
  refine tkH 4 ⟨some 43, _, _, _, _, _⟩ ?_ rfl ?_ (by assumption) ?_
  rotate_left
  · (intro w hSw; (try dsimp only at hSw); go_simp; all_goals with_reducible rfl)
  try simp only [Act.put, sA, sB, sC]
  refine wpAnyH_ready (rs := [1]) (by kernel_rfl) (by simp) ?_
  refine AllReadyH.cons rfl (fun K hK => ?_) (AllReadyH.nil)
  go_simp
  refine (copyP_is nm s G D A B gn gc dn dc _ hgn hdn hg6 hd6 (Lib.hid (hG.out.below (hB4.trans (hT0.mono hB4.size)))) (Lib.hid (hD.out.below (hB4.trans (hT0.mono hB4.size)))) CG CD).mono ?_
  rintro e y4v1 ⟨A2, ca2, B2, cb2, rfl, hsg, hsd, hna, hnb, hby4v0⟩
  have hT1 : Below y3v4.heap.size y3v4 y4v1 := hT0.trans (hby4v0.mono hT0.size)
  have HG2 := Lib.hid hsg
  have HD2 := Lib.hid hsd
  clear hsg hsd hna hnb
  clear hby4v0
  go_wp2_with fail
  refine hK.out _ _ (HS.out _ hT1) (fun hHeld => ?_)
  clear hK K
  try simp only [Act.put, sA, sB, sC]
  refine wpAnyH_ready (rs := [3]) (by kernel_rfl) (by simp) ?_
  refine AllReadyH.cons rfl (fun K hK => ?_) (AllReadyH.nil)
  go_simp
  refine (copyR_is T r AT tn tc _ htn ht6 (Lib.hid (hT.out.below (hB4.trans (hT1.mono hB4.size)))) CT).mono ?_
  rintro e y4v2 ⟨AT2, ct2, rfl, hst, hby4v1⟩
  have hT2 : Below y3v4.heap.size y3v4 y4v2 := hT1.trans (hby4v1.mono hT1.size)
  replace HG2 := Lib.hid (HG2.out.below hby4v1)
  replace HD2 := Lib.hid (HD2.out.below hby4v1)
  have HT2 := Lib.hid hst
  clear hst
  clear hby4v1
  go_wp2_with fail
  refine hK.out _ _ (HS.out _ hT2) (fun hHeld => ?_)
  clear hK K
  try simp only [Act.put, sA, sB, sC]
  refine wpAnyH_ready (rs := [5]) (by kernel_rfl) (by simp) ?_
  refine AllReadyH.cons rfl (fun K hK => ?_) (AllReadyH.nil)
  go_simp
  refine (copyIn_is L C cc an _ han ha6 (Lib.hid (hC.out.below (hB4.trans (hT2.mono hB4.size)))) CA).mono ?_
  rintro e y4v3 ⟨C2, cc2, rfl, hsc, hnc, hnd, hby4v2⟩
  have hT3 : Below y3v4.heap.size y3v4 y4v3 := hT2.trans (hby4v2.mono hT2.size)
  replace HG2 := Lib.hid (HG2.out.below hby4v2)
  replace HD2 := Lib.hid (HD2.out.below hby4v2)
  replace HT2 := Lib.hid (HT2.out.below hby4v2)
  have HC2 := Lib.hid hsc
  clear hsc hnc hnd
  clear hby4v2
  go_wp2_with fail
  refine hK.out _ _ (HS.out _ hT3) (fun hHeld => ?_)
  clear hK K
  try simp only [Act.put, sA, sB, sC]
  refine wpAnyH_ready (rs := [6]) (by kernel_rfl) (by simp) ?_
  refine AllReadyH.cons rfl (fun K hK => ?_) (AllReadyH.nil)
  go_simp
  refine (LastTurn_z nm s G D A2 B2 gn ca2 dn cb2 T r AT2 tn ct2 L C2 an cc2 N 0 NN gF vF sF _ hz hgn hgl hdn hdl HG2 HD2 htn htl HT2 han ha6 HC2 hE0 hE1 hE hF9 hok hru hS9 hNN hgL hk1 hk2 hk3 hkN (Lib.hid rfl)).mono ?_
  rintro e y4v4 ⟨rfl, hby4v3⟩
  have hT4 : Below y3v4.heap.size y3v4 y4v4 := hT3.trans (hby4v3.mono hT3.size)
  replace HG2 := Lib.hid (HG2.out.below hby4v3)
  replace HD2 := Lib.hid (HD2.out.below hby4v3)
  replace HT2 := Lib.hid (HT2.out.below hby4v3)
  replace HC2 := Lib.hid (HC2.out.below hby4v3)
  clear hby4v3
  go_wp2_with fail
  refine hK.out _ _ (HS.out _ hT4) (fun hHeld => ?_)
  clear hK K
  try simp only [Act.put, sA, sB, sC]
  refine tkH 7 ⟨some 38, _, _, _, _, _⟩ ?_ rfl ?_ (by assumption) ?_
  rotate_left
  · (intro w hSw; (try dsimp only at hSw); go_simp; all_goals with_reducible rfl)
  try simp only [Act.put, sA, sB, sC]
  refine tkH 8 ⟨some 46, _, _, _, _, _⟩ ?_ rfl ?_ (by assumption) ?_
  rotate_left
  · (intro w hSw; (try dsimp only at hSw); go_simp; all_goals with_reducible rfl)
  try simp only [Act.put, sA, sB, sC]
  refine tkH 9 ⟨some 47, _, _, _, _, _⟩ ?_ rfl ?_ (by assumption) ?_
  rotate_left
  · (intro w hSw; (try dsimp only at hSw); go_simp; all_goals with_reducible rfl)
  try simp only [Act.put, sA, sB, sC]
  refine tkH 10 ⟨some 9, _, _, _, _, _⟩ ?_ rfl ?_ (by assumption) ?_
  rotate_left
  · (intro w hSw; (try dsimp only at hSw); go_simp; all_goals with_reducible rfl)
  try simp only [Act.put, sA, sB, sC]
  refine tkH 11 ⟨some 10, _, _, _, _, _⟩ ?_ rfl ?_ (by assumption) ?_
  rotate_left
  · (intro w hSw; (try dsimp only at hSw); go_simp; all_goals with_reducible rfl)
  try simp only [Act.put, sA, sB, sC]
  refine wpAnyH_done (by kernel_rfl) ?_ _
  have hc5 : Below y3v4.heap.size y3v4 y4v4 := hT4
  have hB5 : Below w.heap.size w y4v4 := hB4.trans (hc5.mono hB4.size)
  have zu5 := hB5.size
  replace PB := Lib.hid (PB.out.below hc5)
  replace RB := Lib.hid (RB.out.below hc5)
  clear PB_4_0 PB_4_1 PB_4_2 PB_4_3 lPB_4 nPB_4 mPB_4 RB_4_0 RB_4_1 RB_4_2 RB_4_3 RB_4_4 RB_4_5 RB_4_6 RB_4_7 RB_4_8 lRB_4 nRB_4 mRB_4
  clear HS hHeld hT0 hT1 hT2 hT3 hT4 hB4 zu4 hc4
  obtain ⟨PB_5_0, PB_5_1, PB_5_2, PB_5_3⟩ := b4 PB.out
  have lPB_5 := PB.out.lt
  have nPB_5 : y4v4.heap.size ≠ w.heap.size := by omega
  have mPB_5 : w.heap.size ≠ y4v4.heap.size := by omega
  obtain ⟨RB_5_0, RB_5_1, RB_5_2, RB_5_3, RB_5_4, RB_5_5, RB_5_6, RB_5_7, RB_5_8⟩ := b9 RB.out
  have lRB_5 := RB.out.lt
  have nRB_5 : y4v4.heap.size ≠ w.heap.size + 1 := by omega
  have mRB_5 : w.heap.size + 1 ≠ y4v4.heap.size := by omega
  clear HG2
  clear HD2
  clear HT2
  clear HC2
  go_wp2_with fail
  refine (refBoth_any nm s G D A B gn gc dn dc T r AT tn tc N 0 0 0 _ hz6 hgn hgl hdn hdl (Lib.hid (hG.out.below (by (repeat (first | (with_reducible refine Below.drew ?_) | (with_reducible refine below_drewN ?_ _) | (with_reducible refine Below.alloc ?_ (by first | omega | (simp; done) | (simp; omega) | (simp at *; omega)) _) | (with_reducible refine Below.setCell ?_ (by first | omega | (simp; done) | (simp; omega) | (simp at *; omega)) _) | (with_reducible exact Below.refl _ _) | (with_reducible assumption) | (with_reducible refine Below.trans ?_ (Below.mono (by assumption) (by first | omega | (simp; done) | (simp; omega) | (simp at *; omega))))))))) (Lib.hid (hD.out.below (by (repeat (first | (with_reducible refine Below.drew ?_) | (with_reducible refine below_drewN ?_ _) | (with_reducible refine Below.alloc ?_ (by first | omega | (simp; done) | (simp; omega) | (simp at *; omega)) _) | (with_reducible refine Below.setCell ?_ (by first | omega | (simp; done) | (simp; omega) | (simp at *; omega)) _) | (with_reducible exact Below.refl _ _) | (with_reducible assumption) | (with_reducible refine Below.trans ?_ (Below.mono (by assumption) (by first | omega | (simp; done) | (simp; omega) | (simp at *; omega))))))))) hE0 htn htl (Lib.hid (hT.out.below (by (repeat (first | (with_reducible refine Below.drew ?_) | (with_reducible refine below_drewN ?_ _) | (with_reducible refine Below.alloc ?_ (by first | omega | (simp; done) | (simp; omega) | (simp at *; omega)) _) | (with_reducible refine Below.setCell ?_ (by first | omega | (simp; done) | (simp; omega) | (simp at *; omega)) _) | (with_reducible exact Below.refl _ _) | (with_reducible assumption) | (with_reducible refine Below.trans ?_ (Below.mono (by assumption) (by first | omega | (simp; done) | (simp; omega) | (simp at *; omega))))))))) hE1 hEB).mono ?_
  rintro e x6 ⟨rfl, hb6⟩
  have hc6 : Below y4v4.heap.size y4v4 x6 := hb6
  have hB6 : Below w.heap.size w x6 := hB5.trans (hc6.mono hB5.size)
  have zu6 := hB6.size
  replace PB := Lib.hid (PB.out.below hc6)
  replace RB := Lib.hid (RB.out.below hc6)
  clear PB_5_0 PB_5_1 PB_5_2 PB_5_3 lPB_5 nPB_5 mPB_5 RB_5_0 RB_5_1 RB_5_2 RB_5_3 RB_5_4 RB_5_5 RB_5_6 RB_5_7 RB_5_8 lRB_5 nRB_5 mRB_5
  clear hb6 hB5 zu5 hc5
  obtain ⟨PB_6_0, PB_6_1, PB_6_2, PB_6_3⟩ := b4 PB.out
  have lPB_6 := PB.out.lt
  have nPB_6 : x6.heap.size ≠ w.heap.size := by omega
  have mPB_6 : w.heap.size ≠ x6.heap.size := by omega
  obtain ⟨RB_6_0, RB_6_1, RB_6_2, RB_6_3, RB_6_4, RB_6_5, RB_6_6, RB_6_7, RB_6_8⟩ := b9 RB.out
  have lRB_6 := RB.out.lt
  have nRB_6 : x6.heap.size ≠ w.heap.size + 1 := by omega
  have mRB_6 : w.heap.size + 1 ≠ x6.heap.size := by omega
  go_wp2_with fail
  refine (refAmt_is nm s A B gn gc dn dc L C an cc 0 _ hgl han ha6 (Lib.hid (hC.out.below (by (repeat (first | (with_reducible refine Below.drew ?_) | (with_reducible refine below_drewN ?_ _) | (with_reducible refine Below.alloc ?_ (by first | omega | (simp; done) | (simp; omega) | (simp at *; omega)) _) | (with_reducible refine Below.setCell ?_ (by first | omega | (simp; done) | (simp; omega) | (simp at *; omega)) _) | (with_reducible exact Below.refl _ _) | (with_reducible assumption) | (with_reducible refine Below.trans ?_ (Below.mono (by assumption) (by first | omega | (simp; done) | (simp; omega) | (simp at *; omega))))))))) hEA).mono ?_
  rintro e x7 ⟨rfl, hb7⟩
  have hc7 : Below x6.heap.size x6 x7 := hb7
  have hB7 : Below w.heap.size w x7 := hB6.trans (hc7.mono hB6.size)
  have zu7 := hB7.size
  replace PB := Lib.hid (PB.out.below hc7)
  replace RB := Lib.hid (RB.out.below hc7)
  clear PB_6_0 PB_6_1 PB_6_2 PB_6_3 lPB_6 nPB_6 mPB_6 RB_6_0 RB_6_1 RB_6_2 RB_6_3 RB_6_4 RB_6_5 RB_6_6 RB_6_7 RB_6_8 lRB_6 nRB_6 mRB_6
  clear hb7 hB6 zu6 hc6
  obtain ⟨PB_7_0, PB_7_1, PB_7_2, PB_7_3⟩ := b4 PB.out
  have lPB_7 := PB.out.lt
  have nPB_7 : x7.heap.size ≠ w.heap.size := by omega
  have mPB_7 : w.heap.size ≠ x7.heap.size := by omega
  obtain ⟨RB_7_0, RB_7_1, RB_7_2, RB_7_3, RB_7_4, RB_7_5, RB_7_6, RB_7_7, RB_7_8⟩ := b9 RB.out
  have lRB_7 := RB.out.lt
  have nRB_7 : x7.heap.size ≠ w.heap.size + 1 := by omega
  have mRB_7 : w.heap.size + 1 ≠ x7.heap.size := by omega
  go_wp2_with fail
  refine (followed_is nm s G D A B gn gc dn dc T r AT tn tc N 0 0 0 0 _ hz6 hgn hgl hdn hdl (Lib.hid (hG.out.below (by (repeat (first | (with_reducible refine Below.drew ?_) | (with_reducible refine below_drewN ?_ _) | (with_reducible refine Below.alloc ?_ (by first | omega | (simp; done) | (simp; omega) | (simp at *; omega)) _) | (with_reducible refine Below.setCell ?_ (by first | omega | (simp; done) | (simp; omega) | (simp at *; omega)) _) | (with_reducible exact Below.refl _ _) | (with_reducible assumption) | (with_reducible refine Below.trans ?_ (Below.mono (by assumption) (by first | omega | (simp; done) | (simp; omega) | (simp at *; omega))))))))) (Lib.hid (hD.out.below (by (repeat (first | (with_reducible refine Below.drew ?_) | (with_reducible refine below_drewN ?_ _) | (with_reducible refine Below.alloc ?_ (by first | omega | (simp; done) | (simp; omega) | (simp at *; omega)) _) | (with_reducible refine Below.setCell ?_ (by first | omega | (simp; done) | (simp; omega) | (simp at *; omega)) _) | (with_reducible exact Below.refl _ _) | (with_reducible assumption) | (with_reducible refine Below.trans ?_ (Below.mono (by assumption) (by first | omega | (simp; done) | (simp; omega) | (simp at *; omega))))))))) htn htl (Lib.hid (hT.out.below (by (repeat (first | (with_reducible refine Below.drew ?_) | (with_reducible refine below_drewN ?_ _) | (with_reducible refine Below.alloc ?_ (by first | omega | (simp; done) | (simp; omega) | (simp at *; omega)) _) | (with_reducible refine Below.setCell ?_ (by first | omega | (simp; done) | (simp; omega) | (simp at *; omega)) _) | (with_reducible exact Below.refl _ _) | (with_reducible assumption) | (with_reducible refine Below.trans ?_ (Below.mono (by assumption) (by first | omega | (simp; done) | (simp; omega) | (simp at *; omega))))))))) hE0 hE1 hF2 hE3).mono ?_
  rintro e x8 ⟨rfl, hb8⟩
  have hc8 : Below x7.heap.size x7 x8 := hb8
  have hB8 : Below w.heap.size w x8 := hB7.trans (hc8.mono hB7.size)
  have zu8 := hB8.size
  replace PB := Lib.hid (PB.out.below hc8)
  replace RB := Lib.hid (RB.out.below hc8)
  clear PB_7_0 PB_7_1 PB_7_2 PB_7_3 lPB_7 nPB_7 mPB_7 RB_7_0 RB_7_1 RB_7_2 RB_7_3 RB_7_4 RB_7_5 RB_7_6 RB_7_7 RB_7_8 lRB_7 nRB_7 mRB_7
  clear hb8 hB7 zu7 hc7
  obtain ⟨PB_8_0, PB_8_1, PB_8_2, PB_8_3⟩ := b4 PB.out
  have lPB_8 := PB.out.lt
  have nPB_8 : x8.heap.size ≠ w.heap.size := by omega
  have mPB_8 : w.heap.size ≠ x8.heap.size := by omega
  obtain ⟨RB_8_0, RB_8_1, RB_8_2, RB_8_3, RB_8_4, RB_8_5, RB_8_6, RB_8_7, RB_8_8⟩ := b9 RB.out
  have lRB_8 := RB.out.lt
  have nRB_8 : x8.heap.size ≠ w.heap.size + 1 := by omega
  have mRB_8 : w.heap.size + 1 ≠ x8.heap.size := by omega
  go_wp2_with fail
  refine (refFails_is nm s G D A B gn gc dn dc T r AT tn tc L C an cc 0 NN gF vF sF 0 _ hgn hdn (Lib.hid (hG.out.below (by (repeat (first | (with_reducible refine Below.drew ?_) | (with_reducible refine below_drewN ?_ _) | (with_reducible refine Below.alloc ?_ (by first | omega | (simp; done) | (simp; omega) | (simp at *; omega)) _) | (with_reducible refine Below.setCell ?_ (by first | omega | (simp; done) | (simp; omega) | (simp at *; omega)) _) | (with_reducible exact Below.refl _ _) | (with_reducible assumption) | (with_reducible refine Below.trans ?_ (Below.mono (by assumption) (by first | omega | (simp; done) | (simp; omega) | (simp at *; omega))))))))) (Lib.hid (hD.out.below (by (repeat (first | (with_reducible refine Below.drew ?_) | (with_reducible refine below_drewN ?_ _) | (with_reducible refine Below.alloc ?_ (by first | omega | (simp; done) | (simp; omega) | (simp at *; omega)) _) | (with_reducible refine Below.setCell ?_ (by first | omega | (simp; done) | (simp; omega) | (simp at *; omega)) _) | (with_reducible exact Below.refl _ _) | (with_reducible assumption) | (with_reducible refine Below.trans ?_ (Below.mono (by assumption) (by first | omega | (simp; done) | (simp; omega) | (simp at *; omega))))))))) han ha6 (Lib.hid (hC.out.below (by (repeat (first | (with_reducible refine Below.drew ?_) | (with_reducible refine below_drewN ?_ _) | (with_reducible refine Below.alloc ?_ (by first | omega | (simp; done) | (simp; omega) | (simp at *; omega)) _) | (with_reducible refine Below.setCell ?_ (by first | omega | (simp; done) | (simp; omega) | (simp at *; omega)) _) | (with_reducible exact Below.refl _ _) | (with_reducible assumption) | (with_reducible refine Below.trans ?_ (Below.mono (by assumption) (by first | omega | (simp; done) | (simp; omega) | (simp at *; omega))))))))) hF9 hok hru hS9 hNN hgL hk1 hk2 hk3 (Lib.hid (if_pos hkN.out))).mono ?_
  rintro e x9 ⟨rfl, hb9⟩
  have hc9 : Below x8.heap.size x8 x9 := hb9
  have hB9 : Below w.heap.size w x9 := hB8.trans (hc9.mono hB8.size)
  have zu9 := hB9.size
  replace PB := Lib.hid (PB.out.below hc9)
  replace RB := Lib.hid (RB.out.below hc9)
  clear PB_8_0 PB_8_1 PB_8_2 PB_8_3 lPB_8 nPB_8 mPB_8 RB_8_0 RB_8_1 RB_8_2 RB_8_3 RB_8_4 RB_8_5 RB_8_6 RB_8_7 RB_8_8 lRB_8 nRB_8 mRB_8
  clear hb9 hB8 zu8 hc8
  obtain ⟨PB_9_0, PB_9_1, PB_9_2, PB_9_3⟩ := b4 PB.out
  have lPB_9 := PB.out.lt
  have nPB_9 : x9.heap.size ≠ w.heap.size := by omega
  have mPB_9 : w.heap.size ≠ x9.heap.size := by omega
  obtain ⟨RB_9_0, RB_9_1, RB_9_2, RB_9_3, RB_9_4, RB_9_5, RB_9_6, RB_9_7, RB_9_8⟩ := b9 RB.out
  have lRB_9 := RB.out.lt
  have nRB_9 : x9.heap.size ≠ w.heap.size + 1 := by omega
  have mRB_9 : w.heap.size + 1 ≠ x9.heap.size := by omega
  go_wp2
  go_ret
  exact ⟨rfl, hB9⟩
set_option maxRecDepth 100000 in
set_option maxHeartbeats 8000000 in
theorem sv_f (nm : ByteArray) (s : Int) (G : List Ga) (D : List Le) (A B : Option Addr) (gn gc dn dc : Nat) (T : List Ox) (r : Ru) (AT : Option Addr) (tn tc : Nat) (L : List Int) (C : Option Addr) (an cc : Nat) (sb : Bool) (N : Nat) (kk NN : Nat) (gF : Nat → Nat) (vF sF : Nat → Int) (S : Int) (w : World) (hz : nm.size ≤ 9223372036854775807) (hgn : Hid (gn = G.length)) (hgl : gn ≤ 9223372036854775807) (hdn : Hid (dn = D.length)) (hdl : dn ≤ 9223372036854775807) (hG : Hid (SlRows gaV 2 w A G)) (hD : Hid (SlRows leV 3 w B D)) (CG : Hid (A = none → gn = 0 ∧ gc = 0)) (CD : Hid (B = none → dn = 0 ∧ dc = 0)) (htn : Hid (tn = T.length)) (htl : tn ≤ 9223372036854775807) (hT : Hid (SlRows oxV 2 w AT T)) (CT : Hid (AT = none → tn = 0 ∧ tc = 0)) (han : Hid (an = L.length)) (hal : an ≤ 9223372036854775807) (hC : Hid (SlRows inV 1 w C L)) (CA : Hid (C = none → an = 0 ∧ cc = 0)) (hS1 : Hid (shortB nm.size dn gn = true)) (hS : Hid (shortB nm.size dn gn = sb)) (hE0 : Hid (plnP nm s G D = (N, 0))) (hb : Hid (briefV sb 0 (secT D dn) = true)) (hF : Hid (fewB tn = true)) (ha : an ≤ 12) (hE1 : Hid (ruE T r = 0)) (hE : Hid (firE [0, 0, amE L gn, if 20000 < secT D dn then (8 : Int) else 0] = 0)) (hEB : Hid (firE [0, 0] = 0)) (hEA : Hid (amE L gn = 0)) (hF2 : Hid ((if 20000 < secT D dn then (8 : Int) else 0) = 0)) (hE3 : Hid (firE [0, 0, 0] = 0)) (hF9 : Hid (∀ i : Nat, gF i = ndG s G D (0 + (i : Int)) ∧ vF i = ndV r s G D (0 + (i : Int)) ∧ sF i = 0 + (i : Int))) (hok : Hid (PlnOk nm s G D)) (hru : Hid (RuOk T r)) (hS9 : Hid (secT D D.length ≤ 20000)) (hNN : Hid (ndN D 0 = NN)) (hgL : Hid (∀ i, i < NN → gF i < an)) (hk1 : Hid (kk ≤ NN)) (hk2 : Hid (∀ j, j < kk → vF j ≤ L.getD (gF j) 0)) (hk3 : Hid (kk < NN → L.getD (gF kk) 0 < vF kk)) (hkN : Hid (¬ kk < NN)) (hSS : Hid (secT D dn = S)) :
    Calls Tryz.prog 4 #[.agg #[.string nm, .int .i64 s, .slice A gn gc, .slice B dn dc], .agg #[.slice AT tn tc, .int .i64 r.a, .int .i64 r.b, .int .i64 r.nc, .int .i64 r.dn, .int .i64 r.br, .int .i64 r.em, .int .i64 r.pa, .int .i64 r.sc], .slice C an cc] w fun e w' => e = .returned (.bool true) ∧ Below w.heap.size w w' := by
  have hsb := shortB_le hS1.out
  have hz6 : nm.size ≤ 1000000 := by omega
  have hg6 : gn ≤ 1000000 := by omega
  have hd6 : dn ≤ 1000000 := by omega
  have ht22 : tn ≤ 22 := fewB_le hF.out
  have ht6 : tn ≤ 1000000 := by omega
  have ha6 : an ≤ 1000000 := by omega
  have ha0 : ¬ (12 : Int) < (an : Int) := by omega
  go_enter Tryz.func4, Tryz.ntmps4
  go_wp2_with fail
  refine (awake_any _).mono ?_
  rintro e x1 ⟨rfl, hb1⟩
  have hc1 : Below w.heap.size w x1 := (((Below.refl _ _).alloc (by first | exact Nat.le_refl _ | (simp; done) | (simp; omega)) _).alloc (by first | exact Nat.le_refl _ | (simp; done) | (simp; omega)) _).trans (hb1.mono (by first | exact Nat.le_refl _ | (simp; done) | (simp; omega)))
  have hB1 : Below w.heap.size w x1 := hc1
  have zu1 := hB1.size
  have PB : Hid (BlkF x1 w.heap.size (w.heap.size) [.string nm, .int .i64 s, .slice A gn gc, .slice B dn dc]) := Lib.hid (((BlkF.made (B := w.heap.size) w [.string nm, .int .i64 s, .slice A gn gc, .slice B dn dc] 25 (by first | exact Nat.le_refl _ | (simp; done) | (simp; omega))).below ((Below.refl _ _).alloc (Nat.le_refl _) _)).below hb1)
  have zPB1 := PB.out.lt
  have RB : Hid (BlkF x1 w.heap.size (w.heap.size + 1) [.slice AT tn tc, .int .i64 r.a, .int .i64 r.b, .int .i64 r.nc, .int .i64 r.dn, .int .i64 r.br, .int .i64 r.em, .int .i64 r.pa, .int .i64 r.sc]) := Lib.hid (by have := (BlkF.made (B := w.heap.size) (w.alloc (.cells #[.string nm, .int .i64 s, .slice A gn gc, .slice B dn dc] 25)) [.slice AT tn tc, .int .i64 r.a, .int .i64 r.b, .int .i64 r.nc, .int .i64 r.dn, .int .i64 r.br, .int .i64 r.em, .int .i64 r.pa, .int .i64 r.sc] 30 (by first | exact Nat.le_refl _ | (simp; done) | (simp; omega))).below hb1; simpa using this)
  have zRB1 := RB.out.lt
  clear hb1
  obtain ⟨PB_1_0, PB_1_1, PB_1_2, PB_1_3⟩ := b4 PB.out
  have lPB_1 := PB.out.lt
  have nPB_1 : x1.heap.size ≠ w.heap.size := by omega
  have mPB_1 : w.heap.size ≠ x1.heap.size := by omega
  obtain ⟨RB_1_0, RB_1_1, RB_1_2, RB_1_3, RB_1_4, RB_1_5, RB_1_6, RB_1_7, RB_1_8⟩ := b9 RB.out
  have lRB_1 := RB.out.lt
  have nRB_1 : x1.heap.size ≠ w.heap.size + 1 := by omega
  have mRB_1 : w.heap.size + 1 ≠ x1.heap.size := by omega
  go_wp2_with fail
  refine (Brief_is nm s G D A B gn gc dn dc sb true N 0 _ hz hgn hgl hdn hdl (Lib.hid (hG.out.below (by (repeat (first | (with_reducible refine Below.drew ?_) | (with_reducible refine below_drewN ?_ _) | (with_reducible refine Below.alloc ?_ (by first | omega | (simp; done) | (simp; omega) | (simp at *; omega)) _) | (with_reducible refine Below.setCell ?_ (by first | omega | (simp; done) | (simp; omega) | (simp at *; omega)) _) | (with_reducible exact Below.refl _ _) | (with_reducible assumption) | (with_reducible refine Below.trans ?_ (Below.mono (by assumption) (by first | omega | (simp; done) | (simp; omega) | (simp at *; omega))))))))) (Lib.hid (hD.out.below (by (repeat (first | (with_reducible refine Below.drew ?_) | (with_reducible refine below_drewN ?_ _) | (with_reducible refine Below.alloc ?_ (by first | omega | (simp; done) | (simp; omega) | (simp at *; omega)) _) | (with_reducible refine Below.setCell ?_ (by first | omega | (simp; done) | (simp; omega) | (simp at *; omega)) _) | (with_reducible exact Below.refl _ _) | (with_reducible assumption) | (with_reducible refine Below.trans ?_ (Below.mono (by assumption) (by first | omega | (simp; done) | (simp; omega) | (simp at *; omega))))))))) hS hE0 hb).mono ?_
  rintro e x2 ⟨rfl, hb2⟩
  have hc2 : Below x1.heap.size x1 x2 := hb2
  have hB2 : Below w.heap.size w x2 := hB1.trans (hc2.mono hB1.size)
  have zu2 := hB2.size
  replace PB := Lib.hid (PB.out.below hc2)
  replace RB := Lib.hid (RB.out.below hc2)
  clear PB_1_0 PB_1_1 PB_1_2 PB_1_3 lPB_1 nPB_1 mPB_1 RB_1_0 RB_1_1 RB_1_2 RB_1_3 RB_1_4 RB_1_5 RB_1_6 RB_1_7 RB_1_8 lRB_1 nRB_1 mRB_1
  clear hb2 hB1 zu1 hc1
  obtain ⟨PB_2_0, PB_2_1, PB_2_2, PB_2_3⟩ := b4 PB.out
  have lPB_2 := PB.out.lt
  have nPB_2 : x2.heap.size ≠ w.heap.size := by omega
  have mPB_2 : w.heap.size ≠ x2.heap.size := by omega
  obtain ⟨RB_2_0, RB_2_1, RB_2_2, RB_2_3, RB_2_4, RB_2_5, RB_2_6, RB_2_7, RB_2_8⟩ := b9 RB.out
  have lRB_2 := RB.out.lt
  have nRB_2 : x2.heap.size ≠ w.heap.size + 1 := by omega
  have mRB_2 : w.heap.size + 1 ≠ x2.heap.size := by omega
  go_wp2_with fail
  refine (few_is r AT tn tc true _ htl hF).mono ?_
  rintro e x3 ⟨rfl, hb3⟩
  have hc3 : Below x2.heap.size x2 x3 := hb3
  have hB3 : Below w.heap.size w x3 := hB2.trans (hc3.mono hB2.size)
  have zu3 := hB3.size
  replace PB := Lib.hid (PB.out.below hc3)
  replace RB := Lib.hid (RB.out.below hc3)
  clear PB_2_0 PB_2_1 PB_2_2 PB_2_3 lPB_2 nPB_2 mPB_2 RB_2_0 RB_2_1 RB_2_2 RB_2_3 RB_2_4 RB_2_5 RB_2_6 RB_2_7 RB_2_8 lRB_2 nRB_2 mRB_2
  clear hb3 hB2 zu2 hc2
  obtain ⟨PB_3_0, PB_3_1, PB_3_2, PB_3_3⟩ := b4 PB.out
  have lPB_3 := PB.out.lt
  have nPB_3 : x3.heap.size ≠ w.heap.size := by omega
  have mPB_3 : w.heap.size ≠ x3.heap.size := by omega
  obtain ⟨RB_3_0, RB_3_1, RB_3_2, RB_3_3, RB_3_4, RB_3_5, RB_3_6, RB_3_7, RB_3_8⟩ := b9 RB.out
  have lRB_3 := RB.out.lt
  have nRB_3 : x3.heap.size ≠ w.heap.size + 1 := by omega
  have mRB_3 : w.heap.size + 1 ≠ x3.heap.size := by omega
  go_upto_region 5 with (fail)
  have HS : Hid (∀ y, Below x3.heap.size x3 y → y.cell? ⟨w.heap.size, 0, none⟩ = some (.string nm) ∧ y.cell? ⟨w.heap.size, 1, none⟩ = some (.int .i64 s) ∧ y.cell? ⟨w.heap.size, 2, none⟩ = some (.slice A gn gc) ∧ y.cell? ⟨w.heap.size, 3, none⟩ = some (.slice B dn dc) ∧ y.cell? ⟨w.heap.size + 1, 0, none⟩ = some (.slice AT tn tc) ∧ y.cell? ⟨w.heap.size + 1, 1, none⟩ = some (.int .i64 r.a) ∧ y.cell? ⟨w.heap.size + 1, 2, none⟩ = some (.int .i64 r.b) ∧ y.cell? ⟨w.heap.size + 1, 3, none⟩ = some (.int .i64 r.nc) ∧ y.cell? ⟨w.heap.size + 1, 4, none⟩ = some (.int .i64 r.dn) ∧ y.cell? ⟨w.heap.size + 1, 5, none⟩ = some (.int .i64 r.br) ∧ y.cell? ⟨w.heap.size + 1, 6, none⟩ = some (.int .i64 r.em) ∧ y.cell? ⟨w.heap.size + 1, 7, none⟩ = some (.int .i64 r.pa) ∧ y.cell? ⟨w.heap.size + 1, 8, none⟩ = some (.int .i64 r.sc)) := Lib.hid fun y hy => ⟨(hy.cell (p := ⟨w.heap.size, 0, none⟩) lPB_3).trans PB_3_0, (hy.cell (p := ⟨w.heap.size, 1, none⟩) lPB_3).trans PB_3_1, (hy.cell (p := ⟨w.heap.size, 2, none⟩) lPB_3).trans PB_3_2, (hy.cell (p := ⟨w.heap.size, 3, none⟩) lPB_3).trans PB_3_3, (hy.cell (p := ⟨w.heap.size + 1, 0, none⟩) lRB_3).trans RB_3_0, (hy.cell (p := ⟨w.heap.size + 1, 1, none⟩) lRB_3).trans RB_3_1, (hy.cell (p := ⟨w.heap.size + 1, 2, none⟩) lRB_3).trans RB_3_2, (hy.cell (p := ⟨w.heap.size + 1, 3, none⟩) lRB_3).trans RB_3_3, (hy.cell (p := ⟨w.heap.size + 1, 4, none⟩) lRB_3).trans RB_3_4, (hy.cell (p := ⟨w.heap.size + 1, 5, none⟩) lRB_3).trans RB_3_5, (hy.cell (p := ⟨w.heap.size + 1, 6, none⟩) lRB_3).trans RB_3_6, (hy.cell (p := ⟨w.heap.size + 1, 7, none⟩) lRB_3).trans RB_3_7, (hy.cell (p := ⟨w.heap.size + 1, 8, none⟩) lRB_3).trans RB_3_8⟩
  refine wp_region_held_drew (S := (fun w' => w'.cell? ⟨w.heap.size, 0, none⟩ = some (.string nm) ∧ w'.cell? ⟨w.heap.size, 1, none⟩ = some (.int .i64 s) ∧ w'.cell? ⟨w.heap.size, 2, none⟩ = some (.slice A gn gc) ∧ w'.cell? ⟨w.heap.size, 3, none⟩ = some (.slice B dn dc) ∧ w'.cell? ⟨w.heap.size + 1, 0, none⟩ = some (.slice AT tn tc) ∧ w'.cell? ⟨w.heap.size + 1, 1, none⟩ = some (.int .i64 r.a) ∧ w'.cell? ⟨w.heap.size + 1, 2, none⟩ = some (.int .i64 r.b) ∧ w'.cell? ⟨w.heap.size + 1, 3, none⟩ = some (.int .i64 r.nc) ∧ w'.cell? ⟨w.heap.size + 1, 4, none⟩ = some (.int .i64 r.dn) ∧ w'.cell? ⟨w.heap.size + 1, 5, none⟩ = some (.int .i64 r.br) ∧ w'.cell? ⟨w.heap.size + 1, 6, none⟩ = some (.int .i64 r.em) ∧ w'.cell? ⟨w.heap.size + 1, 7, none⟩ = some (.int .i64 r.pa) ∧ w'.cell? ⟨w.heap.size + 1, 8, none⟩ = some (.int .i64 r.sc))) (by kernel_rfl) (HS.out _ (Below.refl _ _).drew) (fun hHeld => ?_)
  have hT0 : Below x3.heap.size x3 x3.drew := (Below.refl _ _).drew
  generalize hdr : x3.drew = y3v0 at *
  clear hdr
  refine tkH 0 ⟨some 29, _, _, _, _, _⟩ ?_ rfl ?_ (by assumption) ?_
  rotate_left
  · (intro w hSw; (try dsimp only at hSw); go_simp; all_goals with_reducible rfl)
  try simp only [Act.put, sA, sB, sC]
  refine tkH 2 ⟨some 31, _, _, _, _, _⟩ ?_ rfl ?_ (by assumption) ?_
  rotate_left
  · (intro w hSw; (try dsimp only at hSw); go_simp; all_goals with_reducible rfl)
  try simp only [Act.put, sA, sB, sC]
  refine tkH 4 ⟨some 33, _, _, _, _, _⟩ ?_ rfl ?_ (by assumption) ?_
  rotate_left
  · (intro w hSw; (try dsimp only at hSw); go_simp; all_goals with_reducible rfl)
  try simp only [Act.put, sA, sB, sC]
  refine wpAnyH_ready (rs := [1]) (by kernel_rfl) (by simp) ?_
  refine AllReadyH.cons rfl (fun K hK => ?_) (AllReadyH.nil)
  go_simp
  refine (copyP_is nm s G D A B gn gc dn dc _ hgn hdn hg6 hd6 (Lib.hid (hG.out.below (hB3.trans (hT0.mono hB3.size)))) (Lib.hid (hD.out.below (hB3.trans (hT0.mono hB3.size)))) CG CD).mono ?_
  rintro e y3v1 ⟨A1, ca1, B1, cb1, rfl, hsg, hsd, hna, hnb, hby3v0⟩
  have hT1 : Below x3.heap.size x3 y3v1 := hT0.trans (hby3v0.mono hT0.size)
  have HG1 := Lib.hid hsg
  have HD1 := Lib.hid hsd
  clear hsg hsd hna hnb
  clear hby3v0
  go_wp2_with fail
  refine hK.out _ _ (HS.out _ hT1) (fun hHeld => ?_)
  clear hK K
  try simp only [Act.put, sA, sB, sC]
  refine wpAnyH_ready (rs := [3]) (by kernel_rfl) (by simp) ?_
  refine AllReadyH.cons rfl (fun K hK => ?_) (AllReadyH.nil)
  go_simp
  refine (copyR_is T r AT tn tc _ htn ht6 (Lib.hid (hT.out.below (hB3.trans (hT1.mono hB3.size)))) CT).mono ?_
  rintro e y3v2 ⟨AT1, ct1, rfl, hst, hby3v1⟩
  have hT2 : Below x3.heap.size x3 y3v2 := hT1.trans (hby3v1.mono hT1.size)
  replace HG1 := Lib.hid (HG1.out.below hby3v1)
  replace HD1 := Lib.hid (HD1.out.below hby3v1)
  have HT1 := Lib.hid hst
  clear hst
  clear hby3v1
  go_wp2_with fail
  refine hK.out _ _ (HS.out _ hT2) (fun hHeld => ?_)
  clear hK K
  try simp only [Act.put, sA, sB, sC]
  refine wpAnyH_ready (rs := [5]) (by kernel_rfl) (by simp) ?_
  refine AllReadyH.cons rfl (fun K hK => ?_) (AllReadyH.nil)
  go_simp
  refine (copyIn_is L C cc an _ han ha6 (Lib.hid (hC.out.below (hB3.trans (hT2.mono hB3.size)))) CA).mono ?_
  rintro e y3v3 ⟨C1, cc1, rfl, hsc, hnc, hnd, hby3v2⟩
  have hT3 : Below x3.heap.size x3 y3v3 := hT2.trans (hby3v2.mono hT2.size)
  replace HG1 := Lib.hid (HG1.out.below hby3v2)
  replace HD1 := Lib.hid (HD1.out.below hby3v2)
  replace HT1 := Lib.hid (HT1.out.below hby3v2)
  have HC1 := Lib.hid hsc
  clear hsc hnc hnd
  clear hby3v2
  go_wp2_with fail
  refine hK.out _ _ (HS.out _ hT3) (fun hHeld => ?_)
  clear hK K
  try simp only [Act.put, sA, sB, sC]
  refine wpAnyH_ready (rs := [6]) (by kernel_rfl) (by simp) ?_
  refine AllReadyH.cons rfl (fun K hK => ?_) (AllReadyH.nil)
  go_simp
  refine (Survives_f nm s G D A1 B1 gn ca1 dn cb1 T r AT1 tn ct1 L C1 an cc1 N kk NN gF vF sF _ hz hgn hgl hdn hdl HG1 HD1 htn htl HT1 han ha6 HC1 hE0 hE1 hE hF9 hok hru hS9 hNN hgL hk1 hk2 hk3 hkN).mono ?_
  rintro e y3v4 ⟨rfl, hby3v3⟩
  have hT4 : Below x3.heap.size x3 y3v4 := hT3.trans (hby3v3.mono hT3.size)
  replace HG1 := Lib.hid (HG1.out.below hby3v3)
  replace HD1 := Lib.hid (HD1.out.below hby3v3)
  replace HT1 := Lib.hid (HT1.out.below hby3v3)
  replace HC1 := Lib.hid (HC1.out.below hby3v3)
  clear hby3v3
  go_wp2_with fail
  refine hK.out _ _ (HS.out _ hT4) (fun hHeld => ?_)
  clear hK K
  try simp only [Act.put, sA, sB, sC]
  refine tkH 7 ⟨some 28, _, _, _, _, _⟩ ?_ rfl ?_ (by assumption) ?_
  rotate_left
  · (intro w hSw; (try dsimp only at hSw); go_simp; all_goals with_reducible rfl)
  try simp only [Act.put, sA, sB, sC]
  refine tkH 8 ⟨some 36, _, _, _, _, _⟩ ?_ rfl ?_ (by assumption) ?_
  rotate_left
  · (intro w hSw; (try dsimp only at hSw); go_simp; all_goals with_reducible rfl)
  try simp only [Act.put, sA, sB, sC]
  refine tkH 9 ⟨some 37, _, _, _, _, _⟩ ?_ rfl ?_ (by assumption) ?_
  rotate_left
  · (intro w hSw; (try dsimp only at hSw); go_simp; all_goals with_reducible rfl)
  try simp only [Act.put, sA, sB, sC]
  refine tkH 10 ⟨some 7, _, _, _, _, _⟩ ?_ rfl ?_ (by assumption) ?_
  rotate_left
  · (intro w hSw; (try dsimp only at hSw); go_simp; all_goals with_reducible rfl)
  try simp only [Act.put, sA, sB, sC]
  refine tkH 11 ⟨some 8, _, _, _, _, _⟩ ?_ rfl ?_ (by assumption) ?_
  rotate_left
  · (intro w hSw; (try dsimp only at hSw); go_simp; all_goals with_reducible rfl)
  try simp only [Act.put, sA, sB, sC]
  refine wpAnyH_done (by kernel_rfl) ?_ _
  have hc4 : Below x3.heap.size x3 y3v4 := hT4
  have hB4 : Below w.heap.size w y3v4 := hB3.trans (hc4.mono hB3.size)
  have zu4 := hB4.size
  replace PB := Lib.hid (PB.out.below hc4)
  replace RB := Lib.hid (RB.out.below hc4)
  clear PB_3_0 PB_3_1 PB_3_2 PB_3_3 lPB_3 nPB_3 mPB_3 RB_3_0 RB_3_1 RB_3_2 RB_3_3 RB_3_4 RB_3_5 RB_3_6 RB_3_7 RB_3_8 lRB_3 nRB_3 mRB_3
  clear HS hHeld hT0 hT1 hT2 hT3 hT4 hB3 zu3 hc3
  obtain ⟨PB_4_0, PB_4_1, PB_4_2, PB_4_3⟩ := b4 PB.out
  have lPB_4 := PB.out.lt
  have nPB_4 : y3v4.heap.size ≠ w.heap.size := by omega
  have mPB_4 : w.heap.size ≠ y3v4.heap.size := by omega
  obtain ⟨RB_4_0, RB_4_1, RB_4_2, RB_4_3, RB_4_4, RB_4_5, RB_4_6, RB_4_7, RB_4_8⟩ := b9 RB.out
  have lRB_4 := RB.out.lt
  have nRB_4 : y3v4.heap.size ≠ w.heap.size + 1 := by omega
  have mRB_4 : w.heap.size + 1 ≠ y3v4.heap.size := by omega
  clear HG1
  clear HD1
  clear HT1
  clear HC1
  go_upto_region 6 with (fail)
  have HS : Hid (∀ y, Below y3v4.heap.size y3v4 y → y.cell? ⟨w.heap.size, 0, none⟩ = some (.string nm) ∧ y.cell? ⟨w.heap.size, 1, none⟩ = some (.int .i64 s) ∧ y.cell? ⟨w.heap.size, 2, none⟩ = some (.slice A gn gc) ∧ y.cell? ⟨w.heap.size, 3, none⟩ = some (.slice B dn dc) ∧ y.cell? ⟨w.heap.size + 1, 0, none⟩ = some (.slice AT tn tc) ∧ y.cell? ⟨w.heap.size + 1, 1, none⟩ = some (.int .i64 r.a) ∧ y.cell? ⟨w.heap.size + 1, 2, none⟩ = some (.int .i64 r.b) ∧ y.cell? ⟨w.heap.size + 1, 3, none⟩ = some (.int .i64 r.nc) ∧ y.cell? ⟨w.heap.size + 1, 4, none⟩ = some (.int .i64 r.dn) ∧ y.cell? ⟨w.heap.size + 1, 5, none⟩ = some (.int .i64 r.br) ∧ y.cell? ⟨w.heap.size + 1, 6, none⟩ = some (.int .i64 r.em) ∧ y.cell? ⟨w.heap.size + 1, 7, none⟩ = some (.int .i64 r.pa) ∧ y.cell? ⟨w.heap.size + 1, 8, none⟩ = some (.int .i64 r.sc)) := Lib.hid fun y hy => ⟨(hy.cell (p := ⟨w.heap.size, 0, none⟩) lPB_4).trans PB_4_0, (hy.cell (p := ⟨w.heap.size, 1, none⟩) lPB_4).trans PB_4_1, (hy.cell (p := ⟨w.heap.size, 2, none⟩) lPB_4).trans PB_4_2, (hy.cell (p := ⟨w.heap.size, 3, none⟩) lPB_4).trans PB_4_3, (hy.cell (p := ⟨w.heap.size + 1, 0, none⟩) lRB_4).trans RB_4_0, (hy.cell (p := ⟨w.heap.size + 1, 1, none⟩) lRB_4).trans RB_4_1, (hy.cell (p := ⟨w.heap.size + 1, 2, none⟩) lRB_4).trans RB_4_2, (hy.cell (p := ⟨w.heap.size + 1, 3, none⟩) lRB_4).trans RB_4_3, (hy.cell (p := ⟨w.heap.size + 1, 4, none⟩) lRB_4).trans RB_4_4, (hy.cell (p := ⟨w.heap.size + 1, 5, none⟩) lRB_4).trans RB_4_5, (hy.cell (p := ⟨w.heap.size + 1, 6, none⟩) lRB_4).trans RB_4_6, (hy.cell (p := ⟨w.heap.size + 1, 7, none⟩) lRB_4).trans RB_4_7, (hy.cell (p := ⟨w.heap.size + 1, 8, none⟩) lRB_4).trans RB_4_8⟩
  refine wp_region_held_drew (S := (fun w' => w'.cell? ⟨w.heap.size, 0, none⟩ = some (.string nm) ∧ w'.cell? ⟨w.heap.size, 1, none⟩ = some (.int .i64 s) ∧ w'.cell? ⟨w.heap.size, 2, none⟩ = some (.slice A gn gc) ∧ w'.cell? ⟨w.heap.size, 3, none⟩ = some (.slice B dn dc) ∧ w'.cell? ⟨w.heap.size + 1, 0, none⟩ = some (.slice AT tn tc) ∧ w'.cell? ⟨w.heap.size + 1, 1, none⟩ = some (.int .i64 r.a) ∧ w'.cell? ⟨w.heap.size + 1, 2, none⟩ = some (.int .i64 r.b) ∧ w'.cell? ⟨w.heap.size + 1, 3, none⟩ = some (.int .i64 r.nc) ∧ w'.cell? ⟨w.heap.size + 1, 4, none⟩ = some (.int .i64 r.dn) ∧ w'.cell? ⟨w.heap.size + 1, 5, none⟩ = some (.int .i64 r.br) ∧ w'.cell? ⟨w.heap.size + 1, 6, none⟩ = some (.int .i64 r.em) ∧ w'.cell? ⟨w.heap.size + 1, 7, none⟩ = some (.int .i64 r.pa) ∧ w'.cell? ⟨w.heap.size + 1, 8, none⟩ = some (.int .i64 r.sc))) (by kernel_rfl) (HS.out _ (Below.refl _ _).drew) (fun hHeld => ?_)
  have hT0 : Below y3v4.heap.size y3v4 y3v4.drew := (Below.refl _ _).drew
  generalize hdr : y3v4.drew = y4v0 at *
  clear hdr
  refine tkH 0 ⟨some 39, _, _, _, _, _⟩ ?_ rfl ?_ (by assumption) ?_
  rotate_left
  · (intro w hSw; (try dsimp only at hSw); go_simp; all_goals with_reducible rfl)
  try simp only [Act.put, sA, sB, sC]
  refine tkH 2 ⟨some 41, _, _, _, _, _⟩ ?_ rfl ?_ (by assumption) ?_
  rotate_left
  · (intro w hSw; (try dsimp only at hSw); go_simp; all_goals with_reducible rfl)
  try simp only [Act.put, sA, sB, sC]
  refine tkH 4 ⟨some 43, _, _, _, _, _⟩ ?_ rfl ?_ (by assumption) ?_
  rotate_left
  · (intro w hSw; (try dsimp only at hSw); go_simp; all_goals with_reducible rfl)
  try simp only [Act.put, sA, sB, sC]
  refine wpAnyH_ready (rs := [1]) (by kernel_rfl) (by simp) ?_
  refine AllReadyH.cons rfl (fun K hK => ?_) (AllReadyH.nil)
  go_simp
  refine (copyP_is nm s G D A B gn gc dn dc _ hgn hdn hg6 hd6 (Lib.hid (hG.out.below (hB4.trans (hT0.mono hB4.size)))) (Lib.hid (hD.out.below (hB4.trans (hT0.mono hB4.size)))) CG CD).mono ?_
  rintro e y4v1 ⟨A2, ca2, B2, cb2, rfl, hsg, hsd, hna, hnb, hby4v0⟩
  have hT1 : Below y3v4.heap.size y3v4 y4v1 := hT0.trans (hby4v0.mono hT0.size)
  have HG2 := Lib.hid hsg
  have HD2 := Lib.hid hsd
  clear hsg hsd hna hnb
  clear hby4v0
  go_wp2_with fail
  refine hK.out _ _ (HS.out _ hT1) (fun hHeld => ?_)
  clear hK K
  try simp only [Act.put, sA, sB, sC]
  refine wpAnyH_ready (rs := [3]) (by kernel_rfl) (by simp) ?_
  refine AllReadyH.cons rfl (fun K hK => ?_) (AllReadyH.nil)
  go_simp
  refine (copyR_is T r AT tn tc _ htn ht6 (Lib.hid (hT.out.below (hB4.trans (hT1.mono hB4.size)))) CT).mono ?_
  rintro e y4v2 ⟨AT2, ct2, rfl, hst, hby4v1⟩
  have hT2 : Below y3v4.heap.size y3v4 y4v2 := hT1.trans (hby4v1.mono hT1.size)
  replace HG2 := Lib.hid (HG2.out.below hby4v1)
  replace HD2 := Lib.hid (HD2.out.below hby4v1)
  have HT2 := Lib.hid hst
  clear hst
  clear hby4v1
  go_wp2_with fail
  refine hK.out _ _ (HS.out _ hT2) (fun hHeld => ?_)
  clear hK K
  try simp only [Act.put, sA, sB, sC]
  refine wpAnyH_ready (rs := [5]) (by kernel_rfl) (by simp) ?_
  refine AllReadyH.cons rfl (fun K hK => ?_) (AllReadyH.nil)
  go_simp
  refine (copyIn_is L C cc an _ han ha6 (Lib.hid (hC.out.below (hB4.trans (hT2.mono hB4.size)))) CA).mono ?_
  rintro e y4v3 ⟨C2, cc2, rfl, hsc, hnc, hnd, hby4v2⟩
  have hT3 : Below y3v4.heap.size y3v4 y4v3 := hT2.trans (hby4v2.mono hT2.size)
  replace HG2 := Lib.hid (HG2.out.below hby4v2)
  replace HD2 := Lib.hid (HD2.out.below hby4v2)
  replace HT2 := Lib.hid (HT2.out.below hby4v2)
  have HC2 := Lib.hid hsc
  clear hsc hnc hnd
  clear hby4v2
  go_wp2_with fail
  refine hK.out _ _ (HS.out _ hT3) (fun hHeld => ?_)
  clear hK K
  try simp only [Act.put, sA, sB, sC]
  refine wpAnyH_ready (rs := [6]) (by kernel_rfl) (by simp) ?_
  refine AllReadyH.cons rfl (fun K hK => ?_) (AllReadyH.nil)
  go_simp
  refine (LastTurn_f nm s G D A2 B2 gn ca2 dn cb2 T r AT2 tn ct2 L C2 an cc2 N kk NN gF vF sF _ hz hgn hgl hdn hdl HG2 HD2 htn htl HT2 han ha6 HC2 hE0 hE1 hE hF9 hok hru hS9 hNN hgL hk1 hk2 hk3 hkN).mono ?_
  rintro e y4v4 ⟨rfl, hby4v3⟩
  have hT4 : Below y3v4.heap.size y3v4 y4v4 := hT3.trans (hby4v3.mono hT3.size)
  replace HG2 := Lib.hid (HG2.out.below hby4v3)
  replace HD2 := Lib.hid (HD2.out.below hby4v3)
  replace HT2 := Lib.hid (HT2.out.below hby4v3)
  replace HC2 := Lib.hid (HC2.out.below hby4v3)
  clear hby4v3
  go_wp2_with fail
  refine hK.out _ _ (HS.out _ hT4) (fun hHeld => ?_)
  clear hK K
  try simp only [Act.put, sA, sB, sC]
  refine tkH 7 ⟨some 38, _, _, _, _, _⟩ ?_ rfl ?_ (by assumption) ?_
  rotate_left
  · (intro w hSw; (try dsimp only at hSw); go_simp; all_goals with_reducible rfl)
  try simp only [Act.put, sA, sB, sC]
  refine tkH 8 ⟨some 46, _, _, _, _, _⟩ ?_ rfl ?_ (by assumption) ?_
  rotate_left
  · (intro w hSw; (try dsimp only at hSw); go_simp; all_goals with_reducible rfl)
  try simp only [Act.put, sA, sB, sC]
  refine tkH 9 ⟨some 47, _, _, _, _, _⟩ ?_ rfl ?_ (by assumption) ?_
  rotate_left
  · (intro w hSw; (try dsimp only at hSw); go_simp; all_goals with_reducible rfl)
  try simp only [Act.put, sA, sB, sC]
  refine tkH 10 ⟨some 9, _, _, _, _, _⟩ ?_ rfl ?_ (by assumption) ?_
  rotate_left
  · (intro w hSw; (try dsimp only at hSw); go_simp; all_goals with_reducible rfl)
  try simp only [Act.put, sA, sB, sC]
  refine tkH 11 ⟨some 10, _, _, _, _, _⟩ ?_ rfl ?_ (by assumption) ?_
  rotate_left
  · (intro w hSw; (try dsimp only at hSw); go_simp; all_goals with_reducible rfl)
  try simp only [Act.put, sA, sB, sC]
  refine wpAnyH_done (by kernel_rfl) ?_ _
  have hc5 : Below y3v4.heap.size y3v4 y4v4 := hT4
  have hB5 : Below w.heap.size w y4v4 := hB4.trans (hc5.mono hB4.size)
  have zu5 := hB5.size
  replace PB := Lib.hid (PB.out.below hc5)
  replace RB := Lib.hid (RB.out.below hc5)
  clear PB_4_0 PB_4_1 PB_4_2 PB_4_3 lPB_4 nPB_4 mPB_4 RB_4_0 RB_4_1 RB_4_2 RB_4_3 RB_4_4 RB_4_5 RB_4_6 RB_4_7 RB_4_8 lRB_4 nRB_4 mRB_4
  clear HS hHeld hT0 hT1 hT2 hT3 hT4 hB4 zu4 hc4
  obtain ⟨PB_5_0, PB_5_1, PB_5_2, PB_5_3⟩ := b4 PB.out
  have lPB_5 := PB.out.lt
  have nPB_5 : y4v4.heap.size ≠ w.heap.size := by omega
  have mPB_5 : w.heap.size ≠ y4v4.heap.size := by omega
  obtain ⟨RB_5_0, RB_5_1, RB_5_2, RB_5_3, RB_5_4, RB_5_5, RB_5_6, RB_5_7, RB_5_8⟩ := b9 RB.out
  have lRB_5 := RB.out.lt
  have nRB_5 : y4v4.heap.size ≠ w.heap.size + 1 := by omega
  have mRB_5 : w.heap.size + 1 ≠ y4v4.heap.size := by omega
  clear HG2
  clear HD2
  clear HT2
  clear HC2
  go_wp2_with fail
  refine (refBoth_any nm s G D A B gn gc dn dc T r AT tn tc N 0 0 0 _ hz6 hgn hgl hdn hdl (Lib.hid (hG.out.below (by (repeat (first | (with_reducible refine Below.drew ?_) | (with_reducible refine below_drewN ?_ _) | (with_reducible refine Below.alloc ?_ (by first | omega | (simp; done) | (simp; omega) | (simp at *; omega)) _) | (with_reducible refine Below.setCell ?_ (by first | omega | (simp; done) | (simp; omega) | (simp at *; omega)) _) | (with_reducible exact Below.refl _ _) | (with_reducible assumption) | (with_reducible refine Below.trans ?_ (Below.mono (by assumption) (by first | omega | (simp; done) | (simp; omega) | (simp at *; omega))))))))) (Lib.hid (hD.out.below (by (repeat (first | (with_reducible refine Below.drew ?_) | (with_reducible refine below_drewN ?_ _) | (with_reducible refine Below.alloc ?_ (by first | omega | (simp; done) | (simp; omega) | (simp at *; omega)) _) | (with_reducible refine Below.setCell ?_ (by first | omega | (simp; done) | (simp; omega) | (simp at *; omega)) _) | (with_reducible exact Below.refl _ _) | (with_reducible assumption) | (with_reducible refine Below.trans ?_ (Below.mono (by assumption) (by first | omega | (simp; done) | (simp; omega) | (simp at *; omega))))))))) hE0 htn htl (Lib.hid (hT.out.below (by (repeat (first | (with_reducible refine Below.drew ?_) | (with_reducible refine below_drewN ?_ _) | (with_reducible refine Below.alloc ?_ (by first | omega | (simp; done) | (simp; omega) | (simp at *; omega)) _) | (with_reducible refine Below.setCell ?_ (by first | omega | (simp; done) | (simp; omega) | (simp at *; omega)) _) | (with_reducible exact Below.refl _ _) | (with_reducible assumption) | (with_reducible refine Below.trans ?_ (Below.mono (by assumption) (by first | omega | (simp; done) | (simp; omega) | (simp at *; omega))))))))) hE1 hEB).mono ?_
  rintro e x6 ⟨rfl, hb6⟩
  have hc6 : Below y4v4.heap.size y4v4 x6 := hb6
  have hB6 : Below w.heap.size w x6 := hB5.trans (hc6.mono hB5.size)
  have zu6 := hB6.size
  replace PB := Lib.hid (PB.out.below hc6)
  replace RB := Lib.hid (RB.out.below hc6)
  clear PB_5_0 PB_5_1 PB_5_2 PB_5_3 lPB_5 nPB_5 mPB_5 RB_5_0 RB_5_1 RB_5_2 RB_5_3 RB_5_4 RB_5_5 RB_5_6 RB_5_7 RB_5_8 lRB_5 nRB_5 mRB_5
  clear hb6 hB5 zu5 hc5
  obtain ⟨PB_6_0, PB_6_1, PB_6_2, PB_6_3⟩ := b4 PB.out
  have lPB_6 := PB.out.lt
  have nPB_6 : x6.heap.size ≠ w.heap.size := by omega
  have mPB_6 : w.heap.size ≠ x6.heap.size := by omega
  obtain ⟨RB_6_0, RB_6_1, RB_6_2, RB_6_3, RB_6_4, RB_6_5, RB_6_6, RB_6_7, RB_6_8⟩ := b9 RB.out
  have lRB_6 := RB.out.lt
  have nRB_6 : x6.heap.size ≠ w.heap.size + 1 := by omega
  have mRB_6 : w.heap.size + 1 ≠ x6.heap.size := by omega
  go_wp2_with fail
  refine (refAmt_is nm s A B gn gc dn dc L C an cc 0 _ hgl han ha6 (Lib.hid (hC.out.below (by (repeat (first | (with_reducible refine Below.drew ?_) | (with_reducible refine below_drewN ?_ _) | (with_reducible refine Below.alloc ?_ (by first | omega | (simp; done) | (simp; omega) | (simp at *; omega)) _) | (with_reducible refine Below.setCell ?_ (by first | omega | (simp; done) | (simp; omega) | (simp at *; omega)) _) | (with_reducible exact Below.refl _ _) | (with_reducible assumption) | (with_reducible refine Below.trans ?_ (Below.mono (by assumption) (by first | omega | (simp; done) | (simp; omega) | (simp at *; omega))))))))) hEA).mono ?_
  rintro e x7 ⟨rfl, hb7⟩
  have hc7 : Below x6.heap.size x6 x7 := hb7
  have hB7 : Below w.heap.size w x7 := hB6.trans (hc7.mono hB6.size)
  have zu7 := hB7.size
  replace PB := Lib.hid (PB.out.below hc7)
  replace RB := Lib.hid (RB.out.below hc7)
  clear PB_6_0 PB_6_1 PB_6_2 PB_6_3 lPB_6 nPB_6 mPB_6 RB_6_0 RB_6_1 RB_6_2 RB_6_3 RB_6_4 RB_6_5 RB_6_6 RB_6_7 RB_6_8 lRB_6 nRB_6 mRB_6
  clear hb7 hB6 zu6 hc6
  obtain ⟨PB_7_0, PB_7_1, PB_7_2, PB_7_3⟩ := b4 PB.out
  have lPB_7 := PB.out.lt
  have nPB_7 : x7.heap.size ≠ w.heap.size := by omega
  have mPB_7 : w.heap.size ≠ x7.heap.size := by omega
  obtain ⟨RB_7_0, RB_7_1, RB_7_2, RB_7_3, RB_7_4, RB_7_5, RB_7_6, RB_7_7, RB_7_8⟩ := b9 RB.out
  have lRB_7 := RB.out.lt
  have nRB_7 : x7.heap.size ≠ w.heap.size + 1 := by omega
  have mRB_7 : w.heap.size + 1 ≠ x7.heap.size := by omega
  go_wp2_with fail
  refine (followed_is nm s G D A B gn gc dn dc T r AT tn tc N 0 0 0 0 _ hz6 hgn hgl hdn hdl (Lib.hid (hG.out.below (by (repeat (first | (with_reducible refine Below.drew ?_) | (with_reducible refine below_drewN ?_ _) | (with_reducible refine Below.alloc ?_ (by first | omega | (simp; done) | (simp; omega) | (simp at *; omega)) _) | (with_reducible refine Below.setCell ?_ (by first | omega | (simp; done) | (simp; omega) | (simp at *; omega)) _) | (with_reducible exact Below.refl _ _) | (with_reducible assumption) | (with_reducible refine Below.trans ?_ (Below.mono (by assumption) (by first | omega | (simp; done) | (simp; omega) | (simp at *; omega))))))))) (Lib.hid (hD.out.below (by (repeat (first | (with_reducible refine Below.drew ?_) | (with_reducible refine below_drewN ?_ _) | (with_reducible refine Below.alloc ?_ (by first | omega | (simp; done) | (simp; omega) | (simp at *; omega)) _) | (with_reducible refine Below.setCell ?_ (by first | omega | (simp; done) | (simp; omega) | (simp at *; omega)) _) | (with_reducible exact Below.refl _ _) | (with_reducible assumption) | (with_reducible refine Below.trans ?_ (Below.mono (by assumption) (by first | omega | (simp; done) | (simp; omega) | (simp at *; omega))))))))) htn htl (Lib.hid (hT.out.below (by (repeat (first | (with_reducible refine Below.drew ?_) | (with_reducible refine below_drewN ?_ _) | (with_reducible refine Below.alloc ?_ (by first | omega | (simp; done) | (simp; omega) | (simp at *; omega)) _) | (with_reducible refine Below.setCell ?_ (by first | omega | (simp; done) | (simp; omega) | (simp at *; omega)) _) | (with_reducible exact Below.refl _ _) | (with_reducible assumption) | (with_reducible refine Below.trans ?_ (Below.mono (by assumption) (by first | omega | (simp; done) | (simp; omega) | (simp at *; omega))))))))) hE0 hE1 hF2 hE3).mono ?_
  rintro e x8 ⟨rfl, hb8⟩
  have hc8 : Below x7.heap.size x7 x8 := hb8
  have hB8 : Below w.heap.size w x8 := hB7.trans (hc8.mono hB7.size)
  have zu8 := hB8.size
  replace PB := Lib.hid (PB.out.below hc8)
  replace RB := Lib.hid (RB.out.below hc8)
  clear PB_7_0 PB_7_1 PB_7_2 PB_7_3 lPB_7 nPB_7 mPB_7 RB_7_0 RB_7_1 RB_7_2 RB_7_3 RB_7_4 RB_7_5 RB_7_6 RB_7_7 RB_7_8 lRB_7 nRB_7 mRB_7
  clear hb8 hB7 zu7 hc7
  obtain ⟨PB_8_0, PB_8_1, PB_8_2, PB_8_3⟩ := b4 PB.out
  have lPB_8 := PB.out.lt
  have nPB_8 : x8.heap.size ≠ w.heap.size := by omega
  have mPB_8 : w.heap.size ≠ x8.heap.size := by omega
  obtain ⟨RB_8_0, RB_8_1, RB_8_2, RB_8_3, RB_8_4, RB_8_5, RB_8_6, RB_8_7, RB_8_8⟩ := b9 RB.out
  have lRB_8 := RB.out.lt
  have nRB_8 : x8.heap.size ≠ w.heap.size + 1 := by omega
  have mRB_8 : w.heap.size + 1 ≠ x8.heap.size := by omega
  go_wp2_with fail
  refine (refFails_is nm s G D A B gn gc dn dc T r AT tn tc L C an cc kk NN gF vF sF (-1) _ hgn hdn (Lib.hid (hG.out.below (by (repeat (first | (with_reducible refine Below.drew ?_) | (with_reducible refine below_drewN ?_ _) | (with_reducible refine Below.alloc ?_ (by first | omega | (simp; done) | (simp; omega) | (simp at *; omega)) _) | (with_reducible refine Below.setCell ?_ (by first | omega | (simp; done) | (simp; omega) | (simp at *; omega)) _) | (with_reducible exact Below.refl _ _) | (with_reducible assumption) | (with_reducible refine Below.trans ?_ (Below.mono (by assumption) (by first | omega | (simp; done) | (simp; omega) | (simp at *; omega))))))))) (Lib.hid (hD.out.below (by (repeat (first | (with_reducible refine Below.drew ?_) | (with_reducible refine below_drewN ?_ _) | (with_reducible refine Below.alloc ?_ (by first | omega | (simp; done) | (simp; omega) | (simp at *; omega)) _) | (with_reducible refine Below.setCell ?_ (by first | omega | (simp; done) | (simp; omega) | (simp at *; omega)) _) | (with_reducible exact Below.refl _ _) | (with_reducible assumption) | (with_reducible refine Below.trans ?_ (Below.mono (by assumption) (by first | omega | (simp; done) | (simp; omega) | (simp at *; omega))))))))) han ha6 (Lib.hid (hC.out.below (by (repeat (first | (with_reducible refine Below.drew ?_) | (with_reducible refine below_drewN ?_ _) | (with_reducible refine Below.alloc ?_ (by first | omega | (simp; done) | (simp; omega) | (simp at *; omega)) _) | (with_reducible refine Below.setCell ?_ (by first | omega | (simp; done) | (simp; omega) | (simp at *; omega)) _) | (with_reducible exact Below.refl _ _) | (with_reducible assumption) | (with_reducible refine Below.trans ?_ (Below.mono (by assumption) (by first | omega | (simp; done) | (simp; omega) | (simp at *; omega))))))))) hF9 hok hru hS9 hNN hgL hk1 hk2 hk3 (Lib.hid (if_neg hkN.out))).mono ?_
  rintro e x9 ⟨rfl, hb9⟩
  have hc9 : Below x8.heap.size x8 x9 := hb9
  have hB9 : Below w.heap.size w x9 := hB8.trans (hc9.mono hB8.size)
  have zu9 := hB9.size
  replace PB := Lib.hid (PB.out.below hc9)
  replace RB := Lib.hid (RB.out.below hc9)
  clear PB_8_0 PB_8_1 PB_8_2 PB_8_3 lPB_8 nPB_8 mPB_8 RB_8_0 RB_8_1 RB_8_2 RB_8_3 RB_8_4 RB_8_5 RB_8_6 RB_8_7 RB_8_8 lRB_8 nRB_8 mRB_8
  clear hb9 hB8 zu8 hc8
  obtain ⟨PB_9_0, PB_9_1, PB_9_2, PB_9_3⟩ := b4 PB.out
  have lPB_9 := PB.out.lt
  have nPB_9 : x9.heap.size ≠ w.heap.size := by omega
  have mPB_9 : w.heap.size ≠ x9.heap.size := by omega
  obtain ⟨RB_9_0, RB_9_1, RB_9_2, RB_9_3, RB_9_4, RB_9_5, RB_9_6, RB_9_7, RB_9_8⟩ := b9 RB.out
  have lRB_9 := RB.out.lt
  have nRB_9 : x9.heap.size ≠ w.heap.size + 1 := by omega
  have mRB_9 : w.heap.size + 1 ≠ x9.heap.size := by omega
  go_wp2_with fail
  refine (refSeconds_is nm s G D A B gn gc dn dc S _ hgn hdn hok (Lib.hid (hG.out.below (by (repeat (first | (with_reducible refine Below.drew ?_) | (with_reducible refine below_drewN ?_ _) | (with_reducible refine Below.alloc ?_ (by first | omega | (simp; done) | (simp; omega) | (simp at *; omega)) _) | (with_reducible refine Below.setCell ?_ (by first | omega | (simp; done) | (simp; omega) | (simp at *; omega)) _) | (with_reducible exact Below.refl _ _) | (with_reducible assumption) | (with_reducible refine Below.trans ?_ (Below.mono (by assumption) (by first | omega | (simp; done) | (simp; omega) | (simp at *; omega))))))))) (Lib.hid (hD.out.below (by (repeat (first | (with_reducible refine Below.drew ?_) | (with_reducible refine below_drewN ?_ _) | (with_reducible refine Below.alloc ?_ (by first | omega | (simp; done) | (simp; omega) | (simp at *; omega)) _) | (with_reducible refine Below.setCell ?_ (by first | omega | (simp; done) | (simp; omega) | (simp at *; omega)) _) | (with_reducible exact Below.refl _ _) | (with_reducible assumption) | (with_reducible refine Below.trans ?_ (Below.mono (by assumption) (by first | omega | (simp; done) | (simp; omega) | (simp at *; omega))))))))) hSS).mono ?_
  rintro e x10 ⟨rfl, hb10⟩
  have hc10 : Below x9.heap.size x9 x10 := hb10
  have hB10 : Below w.heap.size w x10 := hB9.trans (hc10.mono hB9.size)
  have zu10 := hB10.size
  replace PB := Lib.hid (PB.out.below hc10)
  replace RB := Lib.hid (RB.out.below hc10)
  clear PB_9_0 PB_9_1 PB_9_2 PB_9_3 lPB_9 nPB_9 mPB_9 RB_9_0 RB_9_1 RB_9_2 RB_9_3 RB_9_4 RB_9_5 RB_9_6 RB_9_7 RB_9_8 lRB_9 nRB_9 mRB_9
  clear hb10 hB9 zu9 hc9
  obtain ⟨PB_10_0, PB_10_1, PB_10_2, PB_10_3⟩ := b4 PB.out
  have lPB_10 := PB.out.lt
  have nPB_10 : x10.heap.size ≠ w.heap.size := by omega
  have mPB_10 : w.heap.size ≠ x10.heap.size := by omega
  obtain ⟨RB_10_0, RB_10_1, RB_10_2, RB_10_3, RB_10_4, RB_10_5, RB_10_6, RB_10_7, RB_10_8⟩ := b9 RB.out
  have lRB_10 := RB.out.lt
  have nRB_10 : x10.heap.size ≠ w.heap.size + 1 := by omega
  have mRB_10 : w.heap.size + 1 ≠ x10.heap.size := by omega
  go_wp2
  go_ret
  exact ⟨rfl, hB10⟩
theorem exposureSurvives_r (nm : ByteArray) (s : Int) (G : List Ga) (D : List Le) (A B : Option Addr) (gn gc dn dc : Nat) (T : List Ox) (r : Ru) (AT : Option Addr) (tn tc : Nat) (L : List Int) (C : Option Addr) (an cc : Nat) (w : World) (hz : nm.size ≤ 9223372036854775807) (hgn : Hid (gn = G.length)) (hgl : gn ≤ 9223372036854775807) (hdn : Hid (dn = D.length)) (hdl : dn ≤ 9223372036854775807) (hG : Hid (SlRows gaV 2 w A G)) (hD : Hid (SlRows leV 3 w B D)) (CG : Hid (A = none → gn = 0 ∧ gc = 0)) (CD : Hid (B = none → dn = 0 ∧ dc = 0)) (htn : Hid (tn = T.length)) (htl : tn ≤ 9223372036854775807) (hT : Hid (SlRows oxV 2 w AT T)) (CT : Hid (AT = none → tn = 0 ∧ tc = 0)) (han : Hid (an = L.length)) (hal : an ≤ 9223372036854775807) (hC : Hid (SlRows inV 1 w C L)) (CA : Hid (C = none → an = 0 ∧ cc = 0)) :
    Calls Tryz.prog 4 #[.agg #[.string nm, .int .i64 s, .slice A gn gc, .slice B dn dc], .agg #[.slice AT tn tc, .int .i64 r.a, .int .i64 r.b, .int .i64 r.nc, .int .i64 r.dn, .int .i64 r.br, .int .i64 r.em, .int .i64 r.pa, .int .i64 r.sc], .slice C an cc] w fun e w' => e = .returned (.bool true) ∧ Below w.heap.size w w' := by
  obtain ⟨N, E0, hE0⟩ : ∃ N E0, plnP nm s G D = (N, E0) := ⟨_, _, rfl⟩
  obtain ⟨E1, hE1⟩ : ∃ z, ruE T r = z := ⟨_, rfl⟩
  cases hb : briefV (shortB nm.size dn gn) E0 (secT D dn) with
  | false => exact sv_brief nm s G D A B gn gc dn dc T r AT tn tc L C an cc _ N E0 w hz hgn hgl hdn hdl hG hD CG CD htn htl hT CT han hal hC CA (Lib.hid rfl) (Lib.hid hE0) (Lib.hid hb)
  | true =>
    cases hF : fewB tn with
    | false => exact sv_few nm s G D A B gn gc dn dc T r AT tn tc L C an cc _ N E0 w hz hgn hgl hdn hdl hG hD CG CD htn htl hT CT han hal hC CA (Lib.hid rfl) (Lib.hid hE0) (Lib.hid hb) (Lib.hid hF)
    | true =>
      by_cases ha : 12 < an
      · exact sv_len nm s G D A B gn gc dn dc T r AT tn tc L C an cc _ N E0 w hz hgn hgl hdn hdl hG hD CG CD htn htl hT CT han hal hC CA (Lib.hid rfl) (Lib.hid hE0) (Lib.hid hb) (Lib.hid hF) ha
      have ha2 : an ≤ 12 := by omega
      have hS1 : shortB nm.size dn gn = true := by
        unfold briefV at hb
        simp only [Bool.and_eq_true] at hb
        exact hb.1
      by_cases h3 : firE [E0, E1] = 0
      · have hal3 := firE_all h3
        obtain rfl : E0 = 0 := hal3 _ (by simp)
        obtain rfl : E1 = 0 := hal3 _ (by simp)
        have hok := pln_ok hE0
        have hru := ru_ok hE1
        by_cases hEA : amE L gn = 0
        · by_cases h20 : 20000 < secT D dn
          · exact sv_long nm s G D A B gn gc dn dc T r AT tn tc L C an cc _ N w hz hgn hgl hdn hdl hG hD CG CD htn htl hT CT han hal hC CA (Lib.hid hS1) (Lib.hid rfl) (Lib.hid hE0) (Lib.hid hb) (Lib.hid hF) ha2 (Lib.hid hE1) (Lib.hid (by rw [hEA, if_pos h20]; rfl)) (Lib.hid rfl) (Lib.hid hEA) (Lib.hid (if_pos h20)) (Lib.hid rfl)
          · have hS9 : secT D D.length ≤ 20000 := by rw [← hdn.out]; omega
            have hagn : an = gn := by
              have h := hEA
              unfold amE at h
              by_cases e : L.length = gn
              · rw [han.out]; exact e
              · rw [if_neg e] at h; exact absurd h (by decide)
            obtain ⟨NN, hNN⟩ : ∃ z, ndN D 0 = z := ⟨_, rfl⟩
            obtain ⟨gF, vF, sF, hF9⟩ : ∃ (gF : Nat → Nat) (vF sF : Nat → Int), ∀ i : Nat, gF i = ndG s G D (0 + (i : Int)) ∧ vF i = ndV r s G D (0 + (i : Int)) ∧ sF i = 0 + (i : Int) := ⟨fun i => ndG s G D (0 + (i : Int)), fun i => ndV r s G D (0 + (i : Int)), fun i => 0 + (i : Int), fun i => ⟨rfl, rfl, rfl⟩⟩
            have hgL : ∀ i, i < NN → gF i < an := fun i hi => by
              rw [(hF9 i).1, hagn, hgn.out]
              have h := ndN_lt (show i < ndN D 0 by rw [hNN]; exact hi)
              exact (ndG_lt hok h.1 (by rw [Int.zero_add]; exact h.2)).1
            obtain ⟨kk, hk1, hk2, hk3⟩ := frs_ex (fun j => decide (L.getD (gF j) 0 < vF j)) NN
            have hk2' : ∀ j, j < kk → vF j ≤ L.getD (gF j) 0 := fun j hj => by have := hk2 j hj; simp only [decide_eq_false_iff_not] at this; omega
            have hk3' : kk < NN → L.getD (gF kk) 0 < vF kk := fun h => by have := hk3 h; simpa using this
            have e4 : firE [0, 0, amE L gn, if 20000 < secT D dn then (8 : Int) else 0] = 0 := by rw [hEA, if_neg h20]; rfl
            by_cases hkN : kk < NN
            · by_cases hk0 : kk = 0
              · subst hk0
                exact sv_z nm s G D A B gn gc dn dc T r AT tn tc L C an cc _ N NN gF vF sF w hz hgn hgl hdn hdl hG hD CG CD htn htl hT CT han hal hC CA (Lib.hid hS1) (Lib.hid rfl) (Lib.hid hE0) (Lib.hid hb) (Lib.hid hF) ha2 (Lib.hid hE1) (Lib.hid e4) (Lib.hid rfl) (Lib.hid hEA) (Lib.hid (if_neg h20)) (Lib.hid rfl) (Lib.hid hF9) (Lib.hid hok) (Lib.hid hru) (Lib.hid hS9) (Lib.hid hNN) (Lib.hid hgL) (Lib.hid hk1) (Lib.hid hk2') (Lib.hid hk3') (Lib.hid hkN)
              · exact sv_t nm s G D A B gn gc dn dc T r AT tn tc L C an cc _ N kk NN gF vF sF w hz hgn hgl hdn hdl hG hD CG CD htn htl hT CT han hal hC CA (Lib.hid hS1) (Lib.hid rfl) (Lib.hid hE0) (Lib.hid hb) (Lib.hid hF) ha2 (Lib.hid hE1) (Lib.hid e4) (Lib.hid rfl) (Lib.hid hEA) (Lib.hid (if_neg h20)) (Lib.hid rfl) (Lib.hid hF9) (Lib.hid hok) (Lib.hid hru) (Lib.hid hS9) (Lib.hid hNN) (Lib.hid hgL) (Lib.hid hk1) (Lib.hid hk2') (Lib.hid hk3') (Lib.hid hkN) (by omega)
            · exact sv_f nm s G D A B gn gc dn dc T r AT tn tc L C an cc _ N kk NN gF vF sF _ w hz hgn hgl hdn hdl hG hD CG CD htn htl hT CT han hal hC CA (Lib.hid hS1) (Lib.hid rfl) (Lib.hid hE0) (Lib.hid hb) (Lib.hid hF) ha2 (Lib.hid hE1) (Lib.hid e4) (Lib.hid rfl) (Lib.hid hEA) (Lib.hid (if_neg h20)) (Lib.hid rfl) (Lib.hid hF9) (Lib.hid hok) (Lib.hid hru) (Lib.hid hS9) (Lib.hid hNN) (Lib.hid hgL) (Lib.hid hk1) (Lib.hid hk2') (Lib.hid hk3') (Lib.hid hkN) (Lib.hid rfl)
        · exact sv_amt nm s G D A B gn gc dn dc T r AT tn tc L C an cc _ N _ w hz hgn hgl hdn hdl hG hD CG CD htn htl hT CT han hal hC CA (Lib.hid hS1) (Lib.hid rfl) (Lib.hid hE0) (Lib.hid hb) (Lib.hid hF) ha2 (Lib.hid hE1) (Lib.hid (by simp [firE, hEA])) (Lib.hid rfl) (Lib.hid rfl) (by simpa using hEA) (by simpa using hEA)
      · have h4 : firE [E0, E1, amE L gn, if 20000 < secT D dn then (8 : Int) else 0] = firE [E0, E1] := by
          generalize (if 20000 < secT D dn then (8 : Int) else 0) = F8 at h3 ⊢
          generalize amE L gn = FA at h3 ⊢
          revert h3
          simp only [firE]
          by_cases e0 : E0 = 0 <;> by_cases e1 : E1 = 0 <;> simp [e0, e1]
        exact sv_err nm s G D A B gn gc dn dc T r AT tn tc L C an cc _ N E0 E1 _ w hz hgn hgl hdn hdl hG hD CG CD htn htl hT CT han hal hC CA (Lib.hid hS1) (Lib.hid rfl) (Lib.hid hE0) (Lib.hid hb) (Lib.hid hF) ha2 (Lib.hid hE1) (Lib.hid h4) (Lib.hid rfl) (by simpa using h3) (by simpa using h3)
theorem nilCap {α : Type} {f : α → List Value} {k : Nat} {w : World} {A : Option Addr} {L : List α} {c : Nat} (h : SlRows f k w A L) (hn : A = none → c = 0) : A = none → L.length = 0 ∧ c = 0 := fun e => by
  rcases h with h | ⟨b, o, h, _⟩
  · exact ⟨by rw [h]; rfl, hn e⟩
  · rw [e] at h; cases h
theorem exposureSurvives_any (nm : ByteArray) (s : Int) (G : List Ga) (GA : Option Addr) (gc : Nat) (D : List Le) (DA : Option Addr) (dc : Nat) (T : List Ox) (A : Option Addr) (cap : Nat) (ra rb rnc rdn rbr rem rpa rsc : Int) (L9 : List Int) (C9 : Option Addr) (c9 : Nat) (w : World) (hnm : nm.size ≤ 9223372036854775807) (hGl : G.length ≤ 9223372036854775807) (hGn : GA = none → gc = 0) (hGs : SlRows gaV 2 w GA G) (hDl : D.length ≤ 9223372036854775807) (hDn : DA = none → dc = 0) (hDs : SlRows leV 3 w DA D) (hTl : T.length ≤ 9223372036854775807) (hTn : A = none → cap = 0) (hTs : SlRows oxV 2 w A T) (h9l : L9.length ≤ 9223372036854775807) (h9n : C9 = none → c9 = 0) (h9s : SlRows inV 1 w C9 L9) :
    Calls Tryz.prog 4 #[.agg #[.string nm, .int .i64 s, .slice GA G.length gc, .slice DA D.length dc], .agg #[.slice A T.length cap, .int .i64 ra, .int .i64 rb, .int .i64 rnc, .int .i64 rdn, .int .i64 rbr, .int .i64 rem, .int .i64 rpa, .int .i64 rsc], .slice C9 L9.length c9] w fun e w' => e = .returned (.bool true) ∧ Below w.heap.size w w' := by
  exact exposureSurvives_r nm s G D GA DA G.length gc D.length dc T ⟨ra, rb, rnc, rdn, rbr, rem, rpa, rsc⟩ A T.length cap L9 C9 L9.length c9 w hnm (Lib.hid rfl) hGl (Lib.hid rfl) hDl (Lib.hid hGs) (Lib.hid hDs) (Lib.hid (nilCap hGs hGn)) (Lib.hid (nilCap hDs hDn)) (Lib.hid rfl) hTl (Lib.hid hTs) (Lib.hid (nilCap hTs hTn)) (Lib.hid rfl) h9l (Lib.hid h9s) (Lib.hid (nilCap h9s h9n))
end Go.Proofs.YtijdphlejokijaaGreat
