import Derived.Test.YtijdphlejokijaaGreatERSERvL
import Derived.Test.YtijdphlejokijaaGreatERSECpP
import Derived.Test.YtijdphlejokijaaGreatERSNums
import Derived.Test.YtijdphlejokijaaGreatERSEAwk
import Derived.Outline
namespace Go.Proofs.YtijdphlejokijaaGreat
open Go.ChangeShapes Go.WideShapes Go.ChangeAt Go.RowKit
set_option linter.unusedVariables false
set_option linter.unusedSimpArgs false
attribute [local go_sem ↓] Go.wp_at_zero Go.wp_at_succ
theorem cl_bad {P : Program} {f : FuncId} {args : Array Value} {w : World} {E : Int} {R Q : Ending → World → Prop} (h : Calls P f args w fun e w' => (¬ E = 0 ∧ R e w') ∨ (E = 0 ∧ Q e w')) (h0 : ¬ E = 0) : Calls P f args w R := h.mono fun e w' h => h.elim (fun h => h.2) (fun h => absurd h.1 h0)
theorem cl_good {P : Program} {f : FuncId} {args : Array Value} {w : World} {E : Int} {R Q : Ending → World → Prop} (h : Calls P f args w fun e w' => (¬ E = 0 ∧ R e w') ∨ (E = 0 ∧ Q e w')) (h0 : E = 0) : Calls P f args w Q := h.mono fun e w' h => h.elim (fun h => absurd h0 h.1) (fun h => h.2)
set_option maxRecDepth 100000 in
set_option maxHeartbeats 8000000 in
theorem rv_brief (nm : ByteArray) (s : Int) (G : List Ga) (D : List Le) (A B : Option Addr) (gn gc dn dc : Nat) (T : List Ox) (r : Ru) (AT : Option Addr) (tn tc : Nat) (q : Int) (sb : Bool) (N : Nat) (E0 : Int) (w : World) (hz : nm.size ≤ 9223372036854775807) (hgn : Hid (gn = G.length)) (hgl : gn ≤ 9223372036854775807) (hdn : Hid (dn = D.length)) (hdl : dn ≤ 9223372036854775807) (hG : Hid (SlRows gaV 2 w A G)) (hD : Hid (SlRows leV 3 w B D)) (CG : Hid (A = none → gn = 0 ∧ gc = 0)) (CD : Hid (B = none → dn = 0 ∧ dc = 0)) (htn : Hid (tn = T.length)) (htl : tn ≤ 9223372036854775807) (hT : Hid (SlRows oxV 2 w AT T)) (CT : Hid (AT = none → tn = 0 ∧ tc = 0)) (hS : Hid (shortB nm.size dn gn = sb)) (hE0 : Hid (plnP nm s G D = (N, E0))) (hb : Hid (briefV sb E0 (secT D dn) = false)) :
    Calls Tryz.prog 3 #[.agg #[.string nm, .int .i64 s, .slice A gn gc, .slice B dn dc], .agg #[.slice AT tn tc, .int .i64 r.a, .int .i64 r.b, .int .i64 r.nc, .int .i64 r.dn, .int .i64 r.br, .int .i64 r.em, .int .i64 r.pa, .int .i64 r.sc], .int .i64 q] w fun e w' => e = .returned (.bool true) ∧ Below w.heap.size w w' := by
  go_enter Tryz.func3, Tryz.ntmps3
  go_wp2_with fail
  refine (awake_any _).mono ?_
  rintro e x1 ⟨rfl, hb1⟩
  have hc1 : Below w.heap.size w x1 := (((Below.refl _ _).alloc (by first | exact Nat.le_refl _ | (simp; done) | (simp; omega)) _).alloc (by first | exact Nat.le_refl _ | (simp; done) | (simp; omega)) _).trans (hb1.mono (by first | exact Nat.le_refl _ | (simp; done) | (simp; omega)))
  have hB1 : Below w.heap.size w x1 := hc1
  have zu1 := hB1.size
  have PB : Hid (BlkF x1 w.heap.size (w.heap.size) [.string nm, .int .i64 s, .slice A gn gc, .slice B dn dc]) := Lib.hid (((BlkF.made (B := w.heap.size) w [.string nm, .int .i64 s, .slice A gn gc, .slice B dn dc] 25 (by first | exact Nat.le_refl _ | (simp; done) | (simp; omega))).below ((Below.refl _ _).alloc (Nat.le_refl _) _)).below hb1)
  have zPB1 := PB.out.lt
  have RB : Hid (BlkF x1 w.heap.size (w.heap.size + 1) [.slice AT tn tc, .int .i64 r.a, .int .i64 r.b, .int .i64 r.nc, .int .i64 r.dn, .int .i64 r.br, .int .i64 r.em, .int .i64 r.pa, .int .i64 r.sc]) := Lib.hid (by have := (BlkF.made (B := w.heap.size) (w.alloc (.cells #[.string nm, .int .i64 s, .slice A gn gc, .slice B dn dc] 25)) [.slice AT tn tc, .int .i64 r.a, .int .i64 r.b, .int .i64 r.nc, .int .i64 r.dn, .int .i64 r.br, .int .i64 r.em, .int .i64 r.pa, .int .i64 r.sc] 30 (by first | exact Nat.le_refl _ | (simp; done) | (simp; omega))).below hb1; simpa using this)
  have zRB1 := RB.out.lt
  clear hb1
  obtain ⟨PB_1_0, PB_1_1, PB_1_2, PB_1_3⟩ := b4 PB.out
  have lPB_1 := PB.out.lt
  have nPB_1 : x1.heap.size ≠ w.heap.size := by omega
  have mPB_1 : w.heap.size ≠ x1.heap.size := by omega
  obtain ⟨RB_1_0, RB_1_1, RB_1_2, RB_1_3, RB_1_4, RB_1_5, RB_1_6, RB_1_7, RB_1_8⟩ := b9 RB.out
  have lRB_1 := RB.out.lt
  have nRB_1 : x1.heap.size ≠ w.heap.size + 1 := by omega
  have mRB_1 : w.heap.size + 1 ≠ x1.heap.size := by omega
  go_wp2_with fail
  refine (Brief_is nm s G D A B gn gc dn dc sb false N E0 _ hz hgn hgl hdn hdl (Lib.hid (hG.out.below (by (repeat (first | (with_reducible refine Below.drew ?_) | (with_reducible refine below_drewN ?_ _) | (with_reducible refine Below.alloc ?_ (by first | omega | (simp; done) | (simp; omega) | (simp at *; omega)) _) | (with_reducible refine Below.setCell ?_ (by first | omega | (simp; done) | (simp; omega) | (simp at *; omega)) _) | (with_reducible exact Below.refl _ _) | (with_reducible assumption) | (with_reducible refine Below.trans ?_ (Below.mono (by assumption) (by first | omega | (simp; done) | (simp; omega) | (simp at *; omega))))))))) (Lib.hid (hD.out.below (by (repeat (first | (with_reducible refine Below.drew ?_) | (with_reducible refine below_drewN ?_ _) | (with_reducible refine Below.alloc ?_ (by first | omega | (simp; done) | (simp; omega) | (simp at *; omega)) _) | (with_reducible refine Below.setCell ?_ (by first | omega | (simp; done) | (simp; omega) | (simp at *; omega)) _) | (with_reducible exact Below.refl _ _) | (with_reducible assumption) | (with_reducible refine Below.trans ?_ (Below.mono (by assumption) (by first | omega | (simp; done) | (simp; omega) | (simp at *; omega))))))))) hS hE0 hb).mono ?_
  rintro e x2 ⟨rfl, hb2⟩
  have hc2 : Below x1.heap.size x1 x2 := hb2
  have hB2 : Below w.heap.size w x2 := hB1.trans (hc2.mono hB1.size)
  have zu2 := hB2.size
  replace PB := Lib.hid (PB.out.below hc2)
  replace RB := Lib.hid (RB.out.below hc2)
  clear PB_1_0 PB_1_1 PB_1_2 PB_1_3 lPB_1 nPB_1 mPB_1 RB_1_0 RB_1_1 RB_1_2 RB_1_3 RB_1_4 RB_1_5 RB_1_6 RB_1_7 RB_1_8 lRB_1 nRB_1 mRB_1
  clear hb2 hB1 zu1 hc1
  obtain ⟨PB_2_0, PB_2_1, PB_2_2, PB_2_3⟩ := b4 PB.out
  have lPB_2 := PB.out.lt
  have nPB_2 : x2.heap.size ≠ w.heap.size := by omega
  have mPB_2 : w.heap.size ≠ x2.heap.size := by omega
  obtain ⟨RB_2_0, RB_2_1, RB_2_2, RB_2_3, RB_2_4, RB_2_5, RB_2_6, RB_2_7, RB_2_8⟩ := b9 RB.out
  have lRB_2 := RB.out.lt
  have nRB_2 : x2.heap.size ≠ w.heap.size + 1 := by omega
  have mRB_2 : w.heap.size + 1 ≠ x2.heap.size := by omega
  go_wp2
  go_ret
  exact ⟨rfl, hB2⟩
set_option maxRecDepth 100000 in
set_option maxHeartbeats 8000000 in
theorem rv_few (nm : ByteArray) (s : Int) (G : List Ga) (D : List Le) (A B : Option Addr) (gn gc dn dc : Nat) (T : List Ox) (r : Ru) (AT : Option Addr) (tn tc : Nat) (q : Int) (sb : Bool) (N : Nat) (E0 : Int) (w : World) (hz : nm.size ≤ 9223372036854775807) (hgn : Hid (gn = G.length)) (hgl : gn ≤ 9223372036854775807) (hdn : Hid (dn = D.length)) (hdl : dn ≤ 9223372036854775807) (hG : Hid (SlRows gaV 2 w A G)) (hD : Hid (SlRows leV 3 w B D)) (CG : Hid (A = none → gn = 0 ∧ gc = 0)) (CD : Hid (B = none → dn = 0 ∧ dc = 0)) (htn : Hid (tn = T.length)) (htl : tn ≤ 9223372036854775807) (hT : Hid (SlRows oxV 2 w AT T)) (CT : Hid (AT = none → tn = 0 ∧ tc = 0)) (hS : Hid (shortB nm.size dn gn = sb)) (hE0 : Hid (plnP nm s G D = (N, E0))) (hb : Hid (briefV sb E0 (secT D dn) = true)) (hF : Hid (fewB tn = false)) :
    Calls Tryz.prog 3 #[.agg #[.string nm, .int .i64 s, .slice A gn gc, .slice B dn dc], .agg #[.slice AT tn tc, .int .i64 r.a, .int .i64 r.b, .int .i64 r.nc, .int .i64 r.dn, .int .i64 r.br, .int .i64 r.em, .int .i64 r.pa, .int .i64 r.sc], .int .i64 q] w fun e w' => e = .returned (.bool true) ∧ Below w.heap.size w w' := by
  go_enter Tryz.func3, Tryz.ntmps3
  go_wp2_with fail
  refine (awake_any _).mono ?_
  rintro e x1 ⟨rfl, hb1⟩
  have hc1 : Below w.heap.size w x1 := (((Below.refl _ _).alloc (by first | exact Nat.le_refl _ | (simp; done) | (simp; omega)) _).alloc (by first | exact Nat.le_refl _ | (simp; done) | (simp; omega)) _).trans (hb1.mono (by first | exact Nat.le_refl _ | (simp; done) | (simp; omega)))
  have hB1 : Below w.heap.size w x1 := hc1
  have zu1 := hB1.size
  have PB : Hid (BlkF x1 w.heap.size (w.heap.size) [.string nm, .int .i64 s, .slice A gn gc, .slice B dn dc]) := Lib.hid (((BlkF.made (B := w.heap.size) w [.string nm, .int .i64 s, .slice A gn gc, .slice B dn dc] 25 (by first | exact Nat.le_refl _ | (simp; done) | (simp; omega))).below ((Below.refl _ _).alloc (Nat.le_refl _) _)).below hb1)
  have zPB1 := PB.out.lt
  have RB : Hid (BlkF x1 w.heap.size (w.heap.size + 1) [.slice AT tn tc, .int .i64 r.a, .int .i64 r.b, .int .i64 r.nc, .int .i64 r.dn, .int .i64 r.br, .int .i64 r.em, .int .i64 r.pa, .int .i64 r.sc]) := Lib.hid (by have := (BlkF.made (B := w.heap.size) (w.alloc (.cells #[.string nm, .int .i64 s, .slice A gn gc, .slice B dn dc] 25)) [.slice AT tn tc, .int .i64 r.a, .int .i64 r.b, .int .i64 r.nc, .int .i64 r.dn, .int .i64 r.br, .int .i64 r.em, .int .i64 r.pa, .int .i64 r.sc] 30 (by first | exact Nat.le_refl _ | (simp; done) | (simp; omega))).below hb1; simpa using this)
  have zRB1 := RB.out.lt
  clear hb1
  obtain ⟨PB_1_0, PB_1_1, PB_1_2, PB_1_3⟩ := b4 PB.out
  have lPB_1 := PB.out.lt
  have nPB_1 : x1.heap.size ≠ w.heap.size := by omega
  have mPB_1 : w.heap.size ≠ x1.heap.size := by omega
  obtain ⟨RB_1_0, RB_1_1, RB_1_2, RB_1_3, RB_1_4, RB_1_5, RB_1_6, RB_1_7, RB_1_8⟩ := b9 RB.out
  have lRB_1 := RB.out.lt
  have nRB_1 : x1.heap.size ≠ w.heap.size + 1 := by omega
  have mRB_1 : w.heap.size + 1 ≠ x1.heap.size := by omega
  go_wp2_with fail
  refine (Brief_is nm s G D A B gn gc dn dc sb true N E0 _ hz hgn hgl hdn hdl (Lib.hid (hG.out.below (by (repeat (first | (with_reducible refine Below.drew ?_) | (with_reducible refine below_drewN ?_ _) | (with_reducible refine Below.alloc ?_ (by first | omega | (simp; done) | (simp; omega) | (simp at *; omega)) _) | (with_reducible refine Below.setCell ?_ (by first | omega | (simp; done) | (simp; omega) | (simp at *; omega)) _) | (with_reducible exact Below.refl _ _) | (with_reducible assumption) | (with_reducible refine Below.trans ?_ (Below.mono (by assumption) (by first | omega | (simp; done) | (simp; omega) | (simp at *; omega))))))))) (Lib.hid (hD.out.below (by (repeat (first | (with_reducible refine Below.drew ?_) | (with_reducible refine below_drewN ?_ _) | (with_reducible refine Below.alloc ?_ (by first | omega | (simp; done) | (simp; omega) | (simp at *; omega)) _) | (with_reducible refine Below.setCell ?_ (by first | omega | (simp; done) | (simp; omega) | (simp at *; omega)) _) | (with_reducible exact Below.refl _ _) | (with_reducible assumption) | (with_reducible refine Below.trans ?_ (Below.mono (by assumption) (by first | omega | (simp; done) | (simp; omega) | (simp at *; omega))))))))) hS hE0 hb).mono ?_
  rintro e x2 ⟨rfl, hb2⟩
  have hc2 : Below x1.heap.size x1 x2 := hb2
  have hB2 : Below w.heap.size w x2 := hB1.trans (hc2.mono hB1.size)
  have zu2 := hB2.size
  replace PB := Lib.hid (PB.out.below hc2)
  replace RB := Lib.hid (RB.out.below hc2)
  clear PB_1_0 PB_1_1 PB_1_2 PB_1_3 lPB_1 nPB_1 mPB_1 RB_1_0 RB_1_1 RB_1_2 RB_1_3 RB_1_4 RB_1_5 RB_1_6 RB_1_7 RB_1_8 lRB_1 nRB_1 mRB_1
  clear hb2 hB1 zu1 hc1
  obtain ⟨PB_2_0, PB_2_1, PB_2_2, PB_2_3⟩ := b4 PB.out
  have lPB_2 := PB.out.lt
  have nPB_2 : x2.heap.size ≠ w.heap.size := by omega
  have mPB_2 : w.heap.size ≠ x2.heap.size := by omega
  obtain ⟨RB_2_0, RB_2_1, RB_2_2, RB_2_3, RB_2_4, RB_2_5, RB_2_6, RB_2_7, RB_2_8⟩ := b9 RB.out
  have lRB_2 := RB.out.lt
  have nRB_2 : x2.heap.size ≠ w.heap.size + 1 := by omega
  have mRB_2 : w.heap.size + 1 ≠ x2.heap.size := by omega
  go_wp2_with fail
  refine (few_is r AT tn tc false _ htl hF).mono ?_
  rintro e x3 ⟨rfl, hb3⟩
  have hc3 : Below x2.heap.size x2 x3 := hb3
  have hB3 : Below w.heap.size w x3 := hB2.trans (hc3.mono hB2.size)
  have zu3 := hB3.size
  replace PB := Lib.hid (PB.out.below hc3)
  replace RB := Lib.hid (RB.out.below hc3)
  clear PB_2_0 PB_2_1 PB_2_2 PB_2_3 lPB_2 nPB_2 mPB_2 RB_2_0 RB_2_1 RB_2_2 RB_2_3 RB_2_4 RB_2_5 RB_2_6 RB_2_7 RB_2_8 lRB_2 nRB_2 mRB_2
  clear hb3 hB2 zu2 hc2
  obtain ⟨PB_3_0, PB_3_1, PB_3_2, PB_3_3⟩ := b4 PB.out
  have lPB_3 := PB.out.lt
  have nPB_3 : x3.heap.size ≠ w.heap.size := by omega
  have mPB_3 : w.heap.size ≠ x3.heap.size := by omega
  obtain ⟨RB_3_0, RB_3_1, RB_3_2, RB_3_3, RB_3_4, RB_3_5, RB_3_6, RB_3_7, RB_3_8⟩ := b9 RB.out
  have lRB_3 := RB.out.lt
  have nRB_3 : x3.heap.size ≠ w.heap.size + 1 := by omega
  have mRB_3 : w.heap.size + 1 ≠ x3.heap.size := by omega
  go_wp2
  go_ret
  exact ⟨rfl, hB3⟩
set_option maxRecDepth 100000 in
set_option maxHeartbeats 8000000 in
theorem rv_err (nm : ByteArray) (s : Int) (G : List Ga) (D : List Le) (A B : Option Addr) (gn gc dn dc : Nat) (T : List Ox) (r : Ru) (AT : Option Addr) (tn tc : Nat) (q : Int) (sb : Bool) (N : Nat) (E0 E1 F2 E : Int) (gF : Nat → Nat) (vF sF : Nat → Int) (NN : Nat) (w : World) (hz : nm.size ≤ 9223372036854775807) (hgn : Hid (gn = G.length)) (hgl : gn ≤ 9223372036854775807) (hdn : Hid (dn = D.length)) (hdl : dn ≤ 9223372036854775807) (hG : Hid (SlRows gaV 2 w A G)) (hD : Hid (SlRows leV 3 w B D)) (CG : Hid (A = none → gn = 0 ∧ gc = 0)) (CD : Hid (B = none → dn = 0 ∧ dc = 0)) (htn : Hid (tn = T.length)) (htl : tn ≤ 9223372036854775807) (hT : Hid (SlRows oxV 2 w AT T)) (CT : Hid (AT = none → tn = 0 ∧ tc = 0)) (hS1 : Hid (shortB nm.size dn gn = true)) (hS : Hid (shortB nm.size dn gn = sb)) (hE0 : Hid (plnP nm s G D = (N, E0))) (hb : Hid (briefV sb E0 (secT D dn) = true)) (hF : Hid (fewB tn = true)) (hE1 : Hid (ruE T r = E1)) (hF2 : Hid ((if 20000 < secT D dn then (8 : Int) else 0) = F2)) (hE : Hid (firE [E0, E1, if 20000 < secT D dn then (8 : Int) else 0] = E)) (hF9 : Hid (∀ i : Nat, gF i = ndG s G D (0 + (i : Int)) ∧ vF i = ndV r s G D (0 + (i : Int)) ∧ sF i = 0 + (i : Int))) (hNN : Hid (ndN D 0 = NN)) (hEf : Hid (firE [E0, E1, F2] = E)) (hne : ¬ E = 0) (h1 : (E != 0) = true) (h2 : (E == 0) = false) :
    Calls Tryz.prog 3 #[.agg #[.string nm, .int .i64 s, .slice A gn gc, .slice B dn dc], .agg #[.slice AT tn tc, .int .i64 r.a, .int .i64 r.b, .int .i64 r.nc, .int .i64 r.dn, .int .i64 r.br, .int .i64 r.em, .int .i64 r.pa, .int .i64 r.sc], .int .i64 q] w fun e w' => e = .returned (.bool true) ∧ Below w.heap.size w w' := by
  have hsb := shortB_le hS1.out
  have hz6 : nm.size ≤ 1000000 := by omega
  have hg6 : gn ≤ 1000000 := by omega
  have hd6 : dn ≤ 1000000 := by omega
  have ht22 : tn ≤ 22 := fewB_le hF.out
  have ht6 : tn ≤ 1000000 := by omega
  go_enter Tryz.func3, Tryz.ntmps3
  go_wp2_with fail
  refine (awake_any _).mono ?_
  rintro e x1 ⟨rfl, hb1⟩
  have hc1 : Below w.heap.size w x1 := (((Below.refl _ _).alloc (by first | exact Nat.le_refl _ | (simp; done) | (simp; omega)) _).alloc (by first | exact Nat.le_refl _ | (simp; done) | (simp; omega)) _).trans (hb1.mono (by first | exact Nat.le_refl _ | (simp; done) | (simp; omega)))
  have hB1 : Below w.heap.size w x1 := hc1
  have zu1 := hB1.size
  have PB : Hid (BlkF x1 w.heap.size (w.heap.size) [.string nm, .int .i64 s, .slice A gn gc, .slice B dn dc]) := Lib.hid (((BlkF.made (B := w.heap.size) w [.string nm, .int .i64 s, .slice A gn gc, .slice B dn dc] 25 (by first | exact Nat.le_refl _ | (simp; done) | (simp; omega))).below ((Below.refl _ _).alloc (Nat.le_refl _) _)).below hb1)
  have zPB1 := PB.out.lt
  have RB : Hid (BlkF x1 w.heap.size (w.heap.size + 1) [.slice AT tn tc, .int .i64 r.a, .int .i64 r.b, .int .i64 r.nc, .int .i64 r.dn, .int .i64 r.br, .int .i64 r.em, .int .i64 r.pa, .int .i64 r.sc]) := Lib.hid (by have := (BlkF.made (B := w.heap.size) (w.alloc (.cells #[.string nm, .int .i64 s, .slice A gn gc, .slice B dn dc] 25)) [.slice AT tn tc, .int .i64 r.a, .int .i64 r.b, .int .i64 r.nc, .int .i64 r.dn, .int .i64 r.br, .int .i64 r.em, .int .i64 r.pa, .int .i64 r.sc] 30 (by first | exact Nat.le_refl _ | (simp; done) | (simp; omega))).below hb1; simpa using this)
  have zRB1 := RB.out.lt
  clear hb1
  obtain ⟨PB_1_0, PB_1_1, PB_1_2, PB_1_3⟩ := b4 PB.out
  have lPB_1 := PB.out.lt
  have nPB_1 : x1.heap.size ≠ w.heap.size := by omega
  have mPB_1 : w.heap.size ≠ x1.heap.size := by omega
  obtain ⟨RB_1_0, RB_1_1, RB_1_2, RB_1_3, RB_1_4, RB_1_5, RB_1_6, RB_1_7, RB_1_8⟩ := b9 RB.out
  have lRB_1 := RB.out.lt
  have nRB_1 : x1.heap.size ≠ w.heap.size + 1 := by omega
  have mRB_1 : w.heap.size + 1 ≠ x1.heap.size := by omega
  go_wp2_with fail
  refine (Brief_is nm s G D A B gn gc dn dc sb true N E0 _ hz hgn hgl hdn hdl (Lib.hid (hG.out.below (by (repeat (first | (with_reducible refine Below.drew ?_) | (with_reducible refine below_drewN ?_ _) | (with_reducible refine Below.alloc ?_ (by first | omega | (simp; done) | (simp; omega) | (simp at *; omega)) _) | (with_reducible refine Below.setCell ?_ (by first | omega | (simp; done) | (simp; omega) | (simp at *; omega)) _) | (with_reducible exact Below.refl _ _) | (with_reducible assumption) | (with_reducible refine Below.trans ?_ (Below.mono (by assumption) (by first | omega | (simp; done) | (simp; omega) | (simp at *; omega))))))))) (Lib.hid (hD.out.below (by (repeat (first | (with_reducible refine Below.drew ?_) | (with_reducible refine below_drewN ?_ _) | (with_reducible refine Below.alloc ?_ (by first | omega | (simp; done) | (simp; omega) | (simp at *; omega)) _) | (with_reducible refine Below.setCell ?_ (by first | omega | (simp; done) | (simp; omega) | (simp at *; omega)) _) | (with_reducible exact Below.refl _ _) | (with_reducible assumption) | (with_reducible refine Below.trans ?_ (Below.mono (by assumption) (by first | omega | (simp; done) | (simp; omega) | (simp at *; omega))))))))) hS hE0 hb).mono ?_
  rintro e x2 ⟨rfl, hb2⟩
  have hc2 : Below x1.heap.size x1 x2 := hb2
  have hB2 : Below w.heap.size w x2 := hB1.trans (hc2.mono hB1.size)
  have zu2 := hB2.size
  replace PB := Lib.hid (PB.out.below hc2)
  replace RB := Lib.hid (RB.out.below hc2)
  clear PB_1_0 PB_1_1 PB_1_2 PB_1_3 lPB_1 nPB_1 mPB_1 RB_1_0 RB_1_1 RB_1_2 RB_1_3 RB_1_4 RB_1_5 RB_1_6 RB_1_7 RB_1_8 lRB_1 nRB_1 mRB_1
  clear hb2 hB1 zu1 hc1
  obtain ⟨PB_2_0, PB_2_1, PB_2_2, PB_2_3⟩ := b4 PB.out
  have lPB_2 := PB.out.lt
  have nPB_2 : x2.heap.size ≠ w.heap.size := by omega
  have mPB_2 : w.heap.size ≠ x2.heap.size := by omega
  obtain ⟨RB_2_0, RB_2_1, RB_2_2, RB_2_3, RB_2_4, RB_2_5, RB_2_6, RB_2_7, RB_2_8⟩ := b9 RB.out
  have lRB_2 := RB.out.lt
  have nRB_2 : x2.heap.size ≠ w.heap.size + 1 := by omega
  have mRB_2 : w.heap.size + 1 ≠ x2.heap.size := by omega
  go_wp2_with fail
  refine (few_is r AT tn tc true _ htl hF).mono ?_
  rintro e x3 ⟨rfl, hb3⟩
  have hc3 : Below x2.heap.size x2 x3 := hb3
  have hB3 : Below w.heap.size w x3 := hB2.trans (hc3.mono hB2.size)
  have zu3 := hB3.size
  replace PB := Lib.hid (PB.out.below hc3)
  replace RB := Lib.hid (RB.out.below hc3)
  clear PB_2_0 PB_2_1 PB_2_2 PB_2_3 lPB_2 nPB_2 mPB_2 RB_2_0 RB_2_1 RB_2_2 RB_2_3 RB_2_4 RB_2_5 RB_2_6 RB_2_7 RB_2_8 lRB_2 nRB_2 mRB_2
  clear hb3 hB2 zu2 hc2
  obtain ⟨PB_3_0, PB_3_1, PB_3_2, PB_3_3⟩ := b4 PB.out
  have lPB_3 := PB.out.lt
  have nPB_3 : x3.heap.size ≠ w.heap.size := by omega
  have mPB_3 : w.heap.size ≠ x3.heap.size := by omega
  obtain ⟨RB_3_0, RB_3_1, RB_3_2, RB_3_3, RB_3_4, RB_3_5, RB_3_6, RB_3_7, RB_3_8⟩ := b9 RB.out
  have lRB_3 := RB.out.lt
  have nRB_3 : x3.heap.size ≠ w.heap.size + 1 := by omega
  have mRB_3 : w.heap.size + 1 ≠ x3.heap.size := by omega
  go_upto_region 5 with (fail)
  have HS : Hid (∀ y, Below x3.heap.size x3 y → y.cell? ⟨w.heap.size, 0, none⟩ = some (.string nm) ∧ y.cell? ⟨w.heap.size, 1, none⟩ = some (.int .i64 s) ∧ y.cell? ⟨w.heap.size, 2, none⟩ = some (.slice A gn gc) ∧ y.cell? ⟨w.heap.size, 3, none⟩ = some (.slice B dn dc) ∧ y.cell? ⟨w.heap.size + 1, 0, none⟩ = some (.slice AT tn tc) ∧ y.cell? ⟨w.heap.size + 1, 1, none⟩ = some (.int .i64 r.a) ∧ y.cell? ⟨w.heap.size + 1, 2, none⟩ = some (.int .i64 r.b) ∧ y.cell? ⟨w.heap.size + 1, 3, none⟩ = some (.int .i64 r.nc) ∧ y.cell? ⟨w.heap.size + 1, 4, none⟩ = some (.int .i64 r.dn) ∧ y.cell? ⟨w.heap.size + 1, 5, none⟩ = some (.int .i64 r.br) ∧ y.cell? ⟨w.heap.size + 1, 6, none⟩ = some (.int .i64 r.em) ∧ y.cell? ⟨w.heap.size + 1, 7, none⟩ = some (.int .i64 r.pa) ∧ y.cell? ⟨w.heap.size + 1, 8, none⟩ = some (.int .i64 r.sc)) := Lib.hid fun y hy => ⟨(hy.cell (p := ⟨w.heap.size, 0, none⟩) lPB_3).trans PB_3_0, (hy.cell (p := ⟨w.heap.size, 1, none⟩) lPB_3).trans PB_3_1, (hy.cell (p := ⟨w.heap.size, 2, none⟩) lPB_3).trans PB_3_2, (hy.cell (p := ⟨w.heap.size, 3, none⟩) lPB_3).trans PB_3_3, (hy.cell (p := ⟨w.heap.size + 1, 0, none⟩) lRB_3).trans RB_3_0, (hy.cell (p := ⟨w.heap.size + 1, 1, none⟩) lRB_3).trans RB_3_1, (hy.cell (p := ⟨w.heap.size + 1, 2, none⟩) lRB_3).trans RB_3_2, (hy.cell (p := ⟨w.heap.size + 1, 3, none⟩) lRB_3).trans RB_3_3, (hy.cell (p := ⟨w.heap.size + 1, 4, none⟩) lRB_3).trans RB_3_4, (hy.cell (p := ⟨w.heap.size + 1, 5, none⟩) lRB_3).trans RB_3_5, (hy.cell (p := ⟨w.heap.size + 1, 6, none⟩) lRB_3).trans RB_3_6, (hy.cell (p := ⟨w.heap.size + 1, 7, none⟩) lRB_3).trans RB_3_7, (hy.cell (p := ⟨w.heap.size + 1, 8, none⟩) lRB_3).trans RB_3_8⟩
  refine wp_region_held_drew (S := (fun w' => w'.cell? ⟨w.heap.size, 0, none⟩ = some (.string nm) ∧ w'.cell? ⟨w.heap.size, 1, none⟩ = some (.int .i64 s) ∧ w'.cell? ⟨w.heap.size, 2, none⟩ = some (.slice A gn gc) ∧ w'.cell? ⟨w.heap.size, 3, none⟩ = some (.slice B dn dc) ∧ w'.cell? ⟨w.heap.size + 1, 0, none⟩ = some (.slice AT tn tc) ∧ w'.cell? ⟨w.heap.size + 1, 1, none⟩ = some (.int .i64 r.a) ∧ w'.cell? ⟨w.heap.size + 1, 2, none⟩ = some (.int .i64 r.b) ∧ w'.cell? ⟨w.heap.size + 1, 3, none⟩ = some (.int .i64 r.nc) ∧ w'.cell? ⟨w.heap.size + 1, 4, none⟩ = some (.int .i64 r.dn) ∧ w'.cell? ⟨w.heap.size + 1, 5, none⟩ = some (.int .i64 r.br) ∧ w'.cell? ⟨w.heap.size + 1, 6, none⟩ = some (.int .i64 r.em) ∧ w'.cell? ⟨w.heap.size + 1, 7, none⟩ = some (.int .i64 r.pa) ∧ w'.cell? ⟨w.heap.size + 1, 8, none⟩ = some (.int .i64 r.sc))) (by kernel_rfl) (HS.out _ (Below.refl _ _).drew) (fun hHeld => ?_)
  have hT0 : Below x3.heap.size x3 x3.drew := (Below.refl _ _).drew
  generalize hdr : x3.drew = y3v0 at *
  clear hdr
  refine tkH 0 ⟨some 29, _, _, _, _, _⟩ ?_ rfl ?_ (by assumption) ?_
  rotate_left
  · (intro w hSw; (try dsimp only at hSw); go_simp; all_goals with_reducible rfl)
  try simp only [Act.put, sA, sB, sC]
  refine tkH 2 ⟨some 31, _, _, _, _, _⟩ ?_ rfl ?_ (by assumption) ?_
  rotate_left
  · (intro w hSw; (try dsimp only at hSw); go_simp; all_goals with_reducible rfl)
  try simp only [Act.put, sA, sB, sC]
  refine wpAnyH_ready (rs := [1]) (by kernel_rfl) (by simp) ?_
  refine AllReadyH.cons rfl (fun K hK => ?_) (AllReadyH.nil)
  go_simp
  refine (copyP_is nm s G D A B gn gc dn dc _ hgn hdn hg6 hd6 (Lib.hid (hG.out.below (hB3.trans (hT0.mono hB3.size)))) (Lib.hid (hD.out.below (hB3.trans (hT0.mono hB3.size)))) CG CD).mono ?_
  rintro e y3v1 ⟨A1, ca1, B1, cb1, rfl, hsg, hsd, hna, hnb, hby3v0⟩
  have hT1 : Below x3.heap.size x3 y3v1 := hT0.trans (hby3v0.mono hT0.size)
  have HG1 := Lib.hid hsg
  have HD1 := Lib.hid hsd
  clear hsg hsd hna hnb
  clear hby3v0
  go_wp2_with fail
  refine hK.out _ _ (HS.out _ hT1) (fun hHeld => ?_)
  clear hK K
  try simp only [Act.put, sA, sB, sC]
  refine wpAnyH_ready (rs := [3]) (by kernel_rfl) (by simp) ?_
  refine AllReadyH.cons rfl (fun K hK => ?_) (AllReadyH.nil)
  go_simp
  refine (copyR_is T r AT tn tc _ htn ht6 (Lib.hid (hT.out.below (hB3.trans (hT1.mono hB3.size)))) CT).mono ?_
  rintro e y3v2 ⟨AT1, ct1, rfl, hst, hby3v1⟩
  have hT2 : Below x3.heap.size x3 y3v2 := hT1.trans (hby3v1.mono hT1.size)
  replace HG1 := Lib.hid (HG1.out.below hby3v1)
  replace HD1 := Lib.hid (HD1.out.below hby3v1)
  have HT1 := Lib.hid hst
  clear hst
  clear hby3v1
  go_wp2_with fail
  refine hK.out _ _ (HS.out _ hT2) (fun hHeld => ?_)
  clear hK K
  try simp only [Act.put, sA, sB, sC]
  refine wpAnyH_ready (rs := [4]) (by kernel_rfl) (by simp) ?_
  refine AllReadyH.cons rfl (fun K hK => ?_) (AllReadyH.nil)
  go_simp
  refine (cl_bad (Reserves_any nm s G D A1 B1 gn ca1 dn cb1 T r AT1 tn ct1 gF vF sF NN N E0 E1 E _ hz hgn hgl hdn hdl HG1 HD1 htn htl HT1 hE0 hE1 hE hF9 hNN) hne).mono ?_
  rintro e y3v3 ⟨rfl, hby3v2⟩
  have hT3 : Below x3.heap.size x3 y3v3 := hT2.trans (hby3v2.mono hT2.size)
  replace HG1 := Lib.hid (HG1.out.below hby3v2)
  replace HD1 := Lib.hid (HD1.out.below hby3v2)
  replace HT1 := Lib.hid (HT1.out.below hby3v2)
  clear hby3v2
  go_wp2_with fail
  refine hK.out _ _ (HS.out _ hT3) (fun hHeld => ?_)
  clear hK K
  try simp only [Act.put, sA, sB, sC]
  refine tkH 5 ⟨some 28, _, _, _, _, _⟩ ?_ rfl ?_ (by assumption) ?_
  rotate_left
  · (intro w hSw; (try dsimp only at hSw); go_simp; all_goals with_reducible rfl)
  try simp only [Act.put, sA, sB, sC]
  refine tkH 6 ⟨some 34, _, _, _, _, _⟩ ?_ rfl ?_ (by assumption) ?_
  rotate_left
  · (intro w hSw; (try dsimp only at hSw); go_simp; all_goals with_reducible rfl)
  try simp only [Act.put, sA, sB, sC]
  refine tkH 7 ⟨some 35, _, _, _, _, _⟩ ?_ rfl ?_ (by assumption) ?_
  rotate_left
  · (intro w hSw; (try dsimp only at hSw); go_simp; all_goals with_reducible rfl)
  try simp only [Act.put, sA, sB, sC]
  refine tkH 8 ⟨some 7, _, _, _, _, _⟩ ?_ rfl ?_ (by assumption) ?_
  rotate_left
  · (intro w hSw; (try dsimp only at hSw); go_simp; all_goals with_reducible rfl)
  try simp only [Act.put, sA, sB, sC]
  refine tkH 9 ⟨some 8, _, _, _, _, _⟩ ?_ rfl ?_ (by assumption) ?_
  rotate_left
  · (intro w hSw; (try dsimp only at hSw); go_simp; all_goals with_reducible rfl)
  try simp only [Act.put, sA, sB, sC]
  refine wpAnyH_done (by kernel_rfl) ?_ _
  have hc4 : Below x3.heap.size x3 y3v3 := hT3
  have hB4 : Below w.heap.size w y3v3 := hB3.trans (hc4.mono hB3.size)
  have zu4 := hB4.size
  replace PB := Lib.hid (PB.out.below hc4)
  replace RB := Lib.hid (RB.out.below hc4)
  clear PB_3_0 PB_3_1 PB_3_2 PB_3_3 lPB_3 nPB_3 mPB_3 RB_3_0 RB_3_1 RB_3_2 RB_3_3 RB_3_4 RB_3_5 RB_3_6 RB_3_7 RB_3_8 lRB_3 nRB_3 mRB_3
  clear HS hHeld hT0 hT1 hT2 hT3 hB3 zu3 hc3
  obtain ⟨PB_4_0, PB_4_1, PB_4_2, PB_4_3⟩ := b4 PB.out
  have lPB_4 := PB.out.lt
  have nPB_4 : y3v3.heap.size ≠ w.heap.size := by omega
  have mPB_4 : w.heap.size ≠ y3v3.heap.size := by omega
  obtain ⟨RB_4_0, RB_4_1, RB_4_2, RB_4_3, RB_4_4, RB_4_5, RB_4_6, RB_4_7, RB_4_8⟩ := b9 RB.out
  have lRB_4 := RB.out.lt
  have nRB_4 : y3v3.heap.size ≠ w.heap.size + 1 := by omega
  have mRB_4 : w.heap.size + 1 ≠ y3v3.heap.size := by omega
  clear HG1
  clear HD1
  clear HT1
  go_wp2_with fail
  refine (followed_is nm s G D A B gn gc dn dc T r AT tn tc N E0 E1 F2 E _ hz6 hgn hgl hdn hdl (Lib.hid (hG.out.below (by (repeat (first | (with_reducible refine Below.drew ?_) | (with_reducible refine below_drewN ?_ _) | (with_reducible refine Below.alloc ?_ (by first | omega | (simp; done) | (simp; omega) | (simp at *; omega)) _) | (with_reducible refine Below.setCell ?_ (by first | omega | (simp; done) | (simp; omega) | (simp at *; omega)) _) | (with_reducible exact Below.refl _ _) | (with_reducible assumption) | (with_reducible refine Below.trans ?_ (Below.mono (by assumption) (by first | omega | (simp; done) | (simp; omega) | (simp at *; omega))))))))) (Lib.hid (hD.out.below (by (repeat (first | (with_reducible refine Below.drew ?_) | (with_reducible refine below_drewN ?_ _) | (with_reducible refine Below.alloc ?_ (by first | omega | (simp; done) | (simp; omega) | (simp at *; omega)) _) | (with_reducible refine Below.setCell ?_ (by first | omega | (simp; done) | (simp; omega) | (simp at *; omega)) _) | (with_reducible exact Below.refl _ _) | (with_reducible assumption) | (with_reducible refine Below.trans ?_ (Below.mono (by assumption) (by first | omega | (simp; done) | (simp; omega) | (simp at *; omega))))))))) htn htl (Lib.hid (hT.out.below (by (repeat (first | (with_reducible refine Below.drew ?_) | (with_reducible refine below_drewN ?_ _) | (with_reducible refine Below.alloc ?_ (by first | omega | (simp; done) | (simp; omega) | (simp at *; omega)) _) | (with_reducible refine Below.setCell ?_ (by first | omega | (simp; done) | (simp; omega) | (simp at *; omega)) _) | (with_reducible exact Below.refl _ _) | (with_reducible assumption) | (with_reducible refine Below.trans ?_ (Below.mono (by assumption) (by first | omega | (simp; done) | (simp; omega) | (simp at *; omega))))))))) hE0 hE1 hF2 hEf).mono ?_
  rintro e x5 ⟨rfl, hb5⟩
  have hc5 : Below y3v3.heap.size y3v3 x5 := hb5
  have hB5 : Below w.heap.size w x5 := hB4.trans (hc5.mono hB4.size)
  have zu5 := hB5.size
  replace PB := Lib.hid (PB.out.below hc5)
  replace RB := Lib.hid (RB.out.below hc5)
  clear PB_4_0 PB_4_1 PB_4_2 PB_4_3 lPB_4 nPB_4 mPB_4 RB_4_0 RB_4_1 RB_4_2 RB_4_3 RB_4_4 RB_4_5 RB_4_6 RB_4_7 RB_4_8 lRB_4 nRB_4 mRB_4
  clear hb5 hB4 zu4 hc4
  obtain ⟨PB_5_0, PB_5_1, PB_5_2, PB_5_3⟩ := b4 PB.out
  have lPB_5 := PB.out.lt
  have nPB_5 : x5.heap.size ≠ w.heap.size := by omega
  have mPB_5 : w.heap.size ≠ x5.heap.size := by omega
  obtain ⟨RB_5_0, RB_5_1, RB_5_2, RB_5_3, RB_5_4, RB_5_5, RB_5_6, RB_5_7, RB_5_8⟩ := b9 RB.out
  have lRB_5 := RB.out.lt
  have nRB_5 : x5.heap.size ≠ w.heap.size + 1 := by omega
  have mRB_5 : w.heap.size + 1 ≠ x5.heap.size := by omega
  go_wp2
  go_ret
  exact ⟨rfl, hB5⟩
set_option maxRecDepth 100000 in
set_option maxHeartbeats 8000000 in
theorem rv_good (nm : ByteArray) (s : Int) (G : List Ga) (D : List Le) (A B : Option Addr) (gn gc dn dc : Nat) (T : List Ox) (r : Ru) (AT : Option Addr) (tn tc : Nat) (q : Int) (sb : Bool) (N kq : Nat) (S : Int) (gF : Nat → Nat) (vF sF : Nat → Int) (NN : Nat) (l9 : List (Int × Int)) (w : World) (hz : nm.size ≤ 9223372036854775807) (hgn : Hid (gn = G.length)) (hgl : gn ≤ 9223372036854775807) (hdn : Hid (dn = D.length)) (hdl : dn ≤ 9223372036854775807) (hG : Hid (SlRows gaV 2 w A G)) (hD : Hid (SlRows leV 3 w B D)) (CG : Hid (A = none → gn = 0 ∧ gc = 0)) (CD : Hid (B = none → dn = 0 ∧ dc = 0)) (htn : Hid (tn = T.length)) (htl : tn ≤ 9223372036854775807) (hT : Hid (SlRows oxV 2 w AT T)) (CT : Hid (AT = none → tn = 0 ∧ tc = 0)) (hS1 : Hid (shortB nm.size dn gn = true)) (hS : Hid (shortB nm.size dn gn = sb)) (hE0 : Hid (plnP nm s G D = (N, 0))) (hb : Hid (briefV sb 0 (secT D dn) = true)) (hF : Hid (fewB tn = true)) (hE1 : Hid (ruE T r = 0)) (hF2 : Hid ((if 20000 < secT D dn then (8 : Int) else 0) = 0)) (hE : Hid (firE [0, 0, if 20000 < secT D dn then (8 : Int) else 0] = 0)) (hF9 : Hid (∀ i : Nat, gF i = ndG s G D (0 + (i : Int)) ∧ vF i = ndV r s G D (0 + (i : Int)) ∧ sF i = 0 + (i : Int))) (hNN : Hid (ndN D 0 = NN)) (hEf : Hid (firE [0, 0, 0] = 0)) (hok : Hid (PlnOk nm s G D)) (hru : Hid (RuOk T r)) (hS9 : Hid (secT D D.length ≤ 20000)) (hl9 : Hid (rvG rvS gF vF sF gn NN = l9)) (hrw : Hid (rvG rwS gF vF sF gn NN = l9)) (hln : Hid (l9.length = gn)) (hln0 : 0 < l9.length) (g0 : 0 < gn) (g8 : gn ≤ 8) (hgL : Hid (∀ i, i < NN → gF i < gn)) (hch : Hid (RvC gF vF sF gn NN l9)) (hkq : Hid (rmI q (gn : Int) = (kq : Int))) (hkq1 : kq < gn) (hSS : Hid (secT D dn = S)) :
    Calls Tryz.prog 3 #[.agg #[.string nm, .int .i64 s, .slice A gn gc, .slice B dn dc], .agg #[.slice AT tn tc, .int .i64 r.a, .int .i64 r.b, .int .i64 r.nc, .int .i64 r.dn, .int .i64 r.br, .int .i64 r.em, .int .i64 r.pa, .int .i64 r.sc], .int .i64 q] w fun e w' => e = .returned (.bool true) ∧ Below w.heap.size w w' := by
  obtain ⟨i0, hi, hz0', hz1', hz2'⟩ := info_partsG infoIn
  have HI := Lib.hid hi
  have HZ0 := Lib.hid hz0'
  have HZ1 := Lib.hid hz1'
  have HZ2 := Lib.hid hz2'
  clear hi hz0' hz1' hz2'
  have hsb := shortB_le hS1.out
  have hz6 : nm.size ≤ 1000000 := by omega
  have hg6 : gn ≤ 1000000 := by omega
  have hd6 : dn ≤ 1000000 := by omega
  have ht22 : tn ≤ 22 := fewB_le hF.out
  have ht6 : tn ≤ 1000000 := by omega
  go_enter Tryz.func3, Tryz.ntmps3
  go_wp2_with fail
  refine (awake_any _).mono ?_
  rintro e x1 ⟨rfl, hb1⟩
  have hc1 : Below w.heap.size w x1 := (((Below.refl _ _).alloc (by first | exact Nat.le_refl _ | (simp; done) | (simp; omega)) _).alloc (by first | exact Nat.le_refl _ | (simp; done) | (simp; omega)) _).trans (hb1.mono (by first | exact Nat.le_refl _ | (simp; done) | (simp; omega)))
  have hB1 : Below w.heap.size w x1 := hc1
  have zu1 := hB1.size
  have PB : Hid (BlkF x1 w.heap.size (w.heap.size) [.string nm, .int .i64 s, .slice A gn gc, .slice B dn dc]) := Lib.hid (((BlkF.made (B := w.heap.size) w [.string nm, .int .i64 s, .slice A gn gc, .slice B dn dc] 25 (by first | exact Nat.le_refl _ | (simp; done) | (simp; omega))).below ((Below.refl _ _).alloc (Nat.le_refl _) _)).below hb1)
  have zPB1 := PB.out.lt
  have RB : Hid (BlkF x1 w.heap.size (w.heap.size + 1) [.slice AT tn tc, .int .i64 r.a, .int .i64 r.b, .int .i64 r.nc, .int .i64 r.dn, .int .i64 r.br, .int .i64 r.em, .int .i64 r.pa, .int .i64 r.sc]) := Lib.hid (by have := (BlkF.made (B := w.heap.size) (w.alloc (.cells #[.string nm, .int .i64 s, .slice A gn gc, .slice B dn dc] 25)) [.slice AT tn tc, .int .i64 r.a, .int .i64 r.b, .int .i64 r.nc, .int .i64 r.dn, .int .i64 r.br, .int .i64 r.em, .int .i64 r.pa, .int .i64 r.sc] 30 (by first | exact Nat.le_refl _ | (simp; done) | (simp; omega))).below hb1; simpa using this)
  have zRB1 := RB.out.lt
  clear hb1
  obtain ⟨PB_1_0, PB_1_1, PB_1_2, PB_1_3⟩ := b4 PB.out
  have lPB_1 := PB.out.lt
  have nPB_1 : x1.heap.size ≠ w.heap.size := by omega
  have mPB_1 : w.heap.size ≠ x1.heap.size := by omega
  obtain ⟨RB_1_0, RB_1_1, RB_1_2, RB_1_3, RB_1_4, RB_1_5, RB_1_6, RB_1_7, RB_1_8⟩ := b9 RB.out
  have lRB_1 := RB.out.lt
  have nRB_1 : x1.heap.size ≠ w.heap.size + 1 := by omega
  have mRB_1 : w.heap.size + 1 ≠ x1.heap.size := by omega
  go_wp2_with fail
  refine (Brief_is nm s G D A B gn gc dn dc sb true N 0 _ hz hgn hgl hdn hdl (Lib.hid (hG.out.below (by (repeat (first | (with_reducible refine Below.drew ?_) | (with_reducible refine below_drewN ?_ _) | (with_reducible refine Below.alloc ?_ (by first | omega | (simp; done) | (simp; omega) | (simp at *; omega)) _) | (with_reducible refine Below.setCell ?_ (by first | omega | (simp; done) | (simp; omega) | (simp at *; omega)) _) | (with_reducible exact Below.refl _ _) | (with_reducible assumption) | (with_reducible refine Below.trans ?_ (Below.mono (by assumption) (by first | omega | (simp; done) | (simp; omega) | (simp at *; omega))))))))) (Lib.hid (hD.out.below (by (repeat (first | (with_reducible refine Below.drew ?_) | (with_reducible refine below_drewN ?_ _) | (with_reducible refine Below.alloc ?_ (by first | omega | (simp; done) | (simp; omega) | (simp at *; omega)) _) | (with_reducible refine Below.setCell ?_ (by first | omega | (simp; done) | (simp; omega) | (simp at *; omega)) _) | (with_reducible exact Below.refl _ _) | (with_reducible assumption) | (with_reducible refine Below.trans ?_ (Below.mono (by assumption) (by first | omega | (simp; done) | (simp; omega) | (simp at *; omega))))))))) hS hE0 hb).mono ?_
  rintro e x2 ⟨rfl, hb2⟩
  have hc2 : Below x1.heap.size x1 x2 := hb2
  have hB2 : Below w.heap.size w x2 := hB1.trans (hc2.mono hB1.size)
  have zu2 := hB2.size
  replace PB := Lib.hid (PB.out.below hc2)
  replace RB := Lib.hid (RB.out.below hc2)
  clear PB_1_0 PB_1_1 PB_1_2 PB_1_3 lPB_1 nPB_1 mPB_1 RB_1_0 RB_1_1 RB_1_2 RB_1_3 RB_1_4 RB_1_5 RB_1_6 RB_1_7 RB_1_8 lRB_1 nRB_1 mRB_1
  clear hb2 hB1 zu1 hc1
  obtain ⟨PB_2_0, PB_2_1, PB_2_2, PB_2_3⟩ := b4 PB.out
  have lPB_2 := PB.out.lt
  have nPB_2 : x2.heap.size ≠ w.heap.size := by omega
  have mPB_2 : w.heap.size ≠ x2.heap.size := by omega
  obtain ⟨RB_2_0, RB_2_1, RB_2_2, RB_2_3, RB_2_4, RB_2_5, RB_2_6, RB_2_7, RB_2_8⟩ := b9 RB.out
  have lRB_2 := RB.out.lt
  have nRB_2 : x2.heap.size ≠ w.heap.size + 1 := by omega
  have mRB_2 : w.heap.size + 1 ≠ x2.heap.size := by omega
  go_wp2_with fail
  refine (few_is r AT tn tc true _ htl hF).mono ?_
  rintro e x3 ⟨rfl, hb3⟩
  have hc3 : Below x2.heap.size x2 x3 := hb3
  have hB3 : Below w.heap.size w x3 := hB2.trans (hc3.mono hB2.size)
  have zu3 := hB3.size
  replace PB := Lib.hid (PB.out.below hc3)
  replace RB := Lib.hid (RB.out.below hc3)
  clear PB_2_0 PB_2_1 PB_2_2 PB_2_3 lPB_2 nPB_2 mPB_2 RB_2_0 RB_2_1 RB_2_2 RB_2_3 RB_2_4 RB_2_5 RB_2_6 RB_2_7 RB_2_8 lRB_2 nRB_2 mRB_2
  clear hb3 hB2 zu2 hc2
  obtain ⟨PB_3_0, PB_3_1, PB_3_2, PB_3_3⟩ := b4 PB.out
  have lPB_3 := PB.out.lt
  have nPB_3 : x3.heap.size ≠ w.heap.size := by omega
  have mPB_3 : w.heap.size ≠ x3.heap.size := by omega
  obtain ⟨RB_3_0, RB_3_1, RB_3_2, RB_3_3, RB_3_4, RB_3_5, RB_3_6, RB_3_7, RB_3_8⟩ := b9 RB.out
  have lRB_3 := RB.out.lt
  have nRB_3 : x3.heap.size ≠ w.heap.size + 1 := by omega
  have mRB_3 : w.heap.size + 1 ≠ x3.heap.size := by omega
  go_upto_region 5 with (fail)
  have HS : Hid (∀ y, Below x3.heap.size x3 y → y.cell? ⟨w.heap.size, 0, none⟩ = some (.string nm) ∧ y.cell? ⟨w.heap.size, 1, none⟩ = some (.int .i64 s) ∧ y.cell? ⟨w.heap.size, 2, none⟩ = some (.slice A gn gc) ∧ y.cell? ⟨w.heap.size, 3, none⟩ = some (.slice B dn dc) ∧ y.cell? ⟨w.heap.size + 1, 0, none⟩ = some (.slice AT tn tc) ∧ y.cell? ⟨w.heap.size + 1, 1, none⟩ = some (.int .i64 r.a) ∧ y.cell? ⟨w.heap.size + 1, 2, none⟩ = some (.int .i64 r.b) ∧ y.cell? ⟨w.heap.size + 1, 3, none⟩ = some (.int .i64 r.nc) ∧ y.cell? ⟨w.heap.size + 1, 4, none⟩ = some (.int .i64 r.dn) ∧ y.cell? ⟨w.heap.size + 1, 5, none⟩ = some (.int .i64 r.br) ∧ y.cell? ⟨w.heap.size + 1, 6, none⟩ = some (.int .i64 r.em) ∧ y.cell? ⟨w.heap.size + 1, 7, none⟩ = some (.int .i64 r.pa) ∧ y.cell? ⟨w.heap.size + 1, 8, none⟩ = some (.int .i64 r.sc)) := Lib.hid fun y hy => ⟨(hy.cell (p := ⟨w.heap.size, 0, none⟩) lPB_3).trans PB_3_0, (hy.cell (p := ⟨w.heap.size, 1, none⟩) lPB_3).trans PB_3_1, (hy.cell (p := ⟨w.heap.size, 2, none⟩) lPB_3).trans PB_3_2, (hy.cell (p := ⟨w.heap.size, 3, none⟩) lPB_3).trans PB_3_3, (hy.cell (p := ⟨w.heap.size + 1, 0, none⟩) lRB_3).trans RB_3_0, (hy.cell (p := ⟨w.heap.size + 1, 1, none⟩) lRB_3).trans RB_3_1, (hy.cell (p := ⟨w.heap.size + 1, 2, none⟩) lRB_3).trans RB_3_2, (hy.cell (p := ⟨w.heap.size + 1, 3, none⟩) lRB_3).trans RB_3_3, (hy.cell (p := ⟨w.heap.size + 1, 4, none⟩) lRB_3).trans RB_3_4, (hy.cell (p := ⟨w.heap.size + 1, 5, none⟩) lRB_3).trans RB_3_5, (hy.cell (p := ⟨w.heap.size + 1, 6, none⟩) lRB_3).trans RB_3_6, (hy.cell (p := ⟨w.heap.size + 1, 7, none⟩) lRB_3).trans RB_3_7, (hy.cell (p := ⟨w.heap.size + 1, 8, none⟩) lRB_3).trans RB_3_8⟩
  refine wp_region_held_drew (S := (fun w' => w'.cell? ⟨w.heap.size, 0, none⟩ = some (.string nm) ∧ w'.cell? ⟨w.heap.size, 1, none⟩ = some (.int .i64 s) ∧ w'.cell? ⟨w.heap.size, 2, none⟩ = some (.slice A gn gc) ∧ w'.cell? ⟨w.heap.size, 3, none⟩ = some (.slice B dn dc) ∧ w'.cell? ⟨w.heap.size + 1, 0, none⟩ = some (.slice AT tn tc) ∧ w'.cell? ⟨w.heap.size + 1, 1, none⟩ = some (.int .i64 r.a) ∧ w'.cell? ⟨w.heap.size + 1, 2, none⟩ = some (.int .i64 r.b) ∧ w'.cell? ⟨w.heap.size + 1, 3, none⟩ = some (.int .i64 r.nc) ∧ w'.cell? ⟨w.heap.size + 1, 4, none⟩ = some (.int .i64 r.dn) ∧ w'.cell? ⟨w.heap.size + 1, 5, none⟩ = some (.int .i64 r.br) ∧ w'.cell? ⟨w.heap.size + 1, 6, none⟩ = some (.int .i64 r.em) ∧ w'.cell? ⟨w.heap.size + 1, 7, none⟩ = some (.int .i64 r.pa) ∧ w'.cell? ⟨w.heap.size + 1, 8, none⟩ = some (.int .i64 r.sc))) (by kernel_rfl) (HS.out _ (Below.refl _ _).drew) (fun hHeld => ?_)
  have hT0 : Below x3.heap.size x3 x3.drew := (Below.refl _ _).drew
  generalize hdr : x3.drew = y3v0 at *
  clear hdr
  refine tkH 0 ⟨some 29, _, _, _, _, _⟩ ?_ rfl ?_ (by assumption) ?_
  rotate_left
  · (intro w hSw; (try dsimp only at hSw); go_simp; all_goals with_reducible rfl)
  try simp only [Act.put, sA, sB, sC]
  refine tkH 2 ⟨some 31, _, _, _, _, _⟩ ?_ rfl ?_ (by assumption) ?_
  rotate_left
  · (intro w hSw; (try dsimp only at hSw); go_simp; all_goals with_reducible rfl)
  try simp only [Act.put, sA, sB, sC]
  refine wpAnyH_ready (rs := [1]) (by kernel_rfl) (by simp) ?_
  refine AllReadyH.cons rfl (fun K hK => ?_) (AllReadyH.nil)
  go_simp
  refine (copyP_is nm s G D A B gn gc dn dc _ hgn hdn hg6 hd6 (Lib.hid (hG.out.below (hB3.trans (hT0.mono hB3.size)))) (Lib.hid (hD.out.below (hB3.trans (hT0.mono hB3.size)))) CG CD).mono ?_
  rintro e y3v1 ⟨A1, ca1, B1, cb1, rfl, hsg, hsd, hna, hnb, hby3v0⟩
  have hT1 : Below x3.heap.size x3 y3v1 := hT0.trans (hby3v0.mono hT0.size)
  have HG1 := Lib.hid hsg
  have HD1 := Lib.hid hsd
  clear hsg hsd hna hnb
  clear hby3v0
  go_wp2_with fail
  refine hK.out _ _ (HS.out _ hT1) (fun hHeld => ?_)
  clear hK K
  try simp only [Act.put, sA, sB, sC]
  refine wpAnyH_ready (rs := [3]) (by kernel_rfl) (by simp) ?_
  refine AllReadyH.cons rfl (fun K hK => ?_) (AllReadyH.nil)
  go_simp
  refine (copyR_is T r AT tn tc _ htn ht6 (Lib.hid (hT.out.below (hB3.trans (hT1.mono hB3.size)))) CT).mono ?_
  rintro e y3v2 ⟨AT1, ct1, rfl, hst, hby3v1⟩
  have hT2 : Below x3.heap.size x3 y3v2 := hT1.trans (hby3v1.mono hT1.size)
  replace HG1 := Lib.hid (HG1.out.below hby3v1)
  replace HD1 := Lib.hid (HD1.out.below hby3v1)
  have HT1 := Lib.hid hst
  clear hst
  clear hby3v1
  go_wp2_with fail
  refine hK.out _ _ (HS.out _ hT2) (fun hHeld => ?_)
  clear hK K
  try simp only [Act.put, sA, sB, sC]
  refine wpAnyH_ready (rs := [4]) (by kernel_rfl) (by simp) ?_
  refine AllReadyH.cons rfl (fun K hK => ?_) (AllReadyH.nil)
  go_simp
  refine (cl_good (Reserves_any nm s G D A1 B1 gn ca1 dn cb1 T r AT1 tn ct1 gF vF sF NN N 0 0 0 _ hz hgn hgl hdn hdl HG1 HD1 htn htl HT1 hE0 hE1 hE hF9 hNN) rfl).mono ?_
  rintro e y3v3 ⟨lb, cl, rfl, hsl, hlge, hby3v2⟩
  have hT3 : Below x3.heap.size x3 y3v3 := hT2.trans (hby3v2.mono hT2.size)
  replace HG1 := Lib.hid (HG1.out.below hby3v2)
  replace HD1 := Lib.hid (HD1.out.below hby3v2)
  replace HT1 := Lib.hid (HT1.out.below hby3v2)
  rw [hl9.out] at hsl
  have HL := Lib.hid hsl
  clear hsl hlge
  clear hby3v2
  go_wp2_with fail
  refine hK.out _ _ (HS.out _ hT3) (fun hHeld => ?_)
  clear hK K
  try simp only [Act.put, sA, sB, sC]
  refine tkH 5 ⟨some 28, _, _, _, _, _⟩ ?_ rfl ?_ (by assumption) ?_
  rotate_left
  · (intro w hSw; (try dsimp only at hSw); go_simp; all_goals with_reducible rfl)
  try simp only [Act.put, sA, sB, sC]
  refine tkH 6 ⟨some 34, _, _, _, _, _⟩ ?_ rfl ?_ (by assumption) ?_
  rotate_left
  · (intro w hSw; (try dsimp only at hSw); go_simp; all_goals with_reducible rfl)
  try simp only [Act.put, sA, sB, sC]
  refine tkH 7 ⟨some 35, _, _, _, _, _⟩ ?_ rfl ?_ (by assumption) ?_
  rotate_left
  · (intro w hSw; (try dsimp only at hSw); go_simp; all_goals with_reducible rfl)
  try simp only [Act.put, sA, sB, sC]
  refine tkH 8 ⟨some 7, _, _, _, _, _⟩ ?_ rfl ?_ (by assumption) ?_
  rotate_left
  · (intro w hSw; (try dsimp only at hSw); go_simp; all_goals with_reducible rfl)
  try simp only [Act.put, sA, sB, sC]
  refine tkH 9 ⟨some 8, _, _, _, _, _⟩ ?_ rfl ?_ (by assumption) ?_
  rotate_left
  · (intro w hSw; (try dsimp only at hSw); go_simp; all_goals with_reducible rfl)
  try simp only [Act.put, sA, sB, sC]
  refine wpAnyH_done (by kernel_rfl) ?_ _
  have hc4 : Below x3.heap.size x3 y3v3 := hT3
  have hB4 : Below w.heap.size w y3v3 := hB3.trans (hc4.mono hB3.size)
  have zu4 := hB4.size
  replace PB := Lib.hid (PB.out.below hc4)
  replace RB := Lib.hid (RB.out.below hc4)
  clear PB_3_0 PB_3_1 PB_3_2 PB_3_3 lPB_3 nPB_3 mPB_3 RB_3_0 RB_3_1 RB_3_2 RB_3_3 RB_3_4 RB_3_5 RB_3_6 RB_3_7 RB_3_8 lRB_3 nRB_3 mRB_3
  clear HS hHeld hT0 hT1 hT2 hT3 hB3 zu3 hc3
  obtain ⟨PB_4_0, PB_4_1, PB_4_2, PB_4_3⟩ := b4 PB.out
  have lPB_4 := PB.out.lt
  have nPB_4 : y3v3.heap.size ≠ w.heap.size := by omega
  have mPB_4 : w.heap.size ≠ y3v3.heap.size := by omega
  obtain ⟨RB_4_0, RB_4_1, RB_4_2, RB_4_3, RB_4_4, RB_4_5, RB_4_6, RB_4_7, RB_4_8⟩ := b9 RB.out
  have lRB_4 := RB.out.lt
  have nRB_4 : y3v3.heap.size ≠ w.heap.size + 1 := by omega
  have mRB_4 : w.heap.size + 1 ≠ y3v3.heap.size := by omega
  clear HG1
  clear HD1
  clear HT1
  go_wp2_with fail
  refine (followed_is nm s G D A B gn gc dn dc T r AT tn tc N 0 0 0 0 _ hz6 hgn hgl hdn hdl (Lib.hid (hG.out.below (by (repeat (first | (with_reducible refine Below.drew ?_) | (with_reducible refine below_drewN ?_ _) | (with_reducible refine Below.alloc ?_ (by first | omega | (simp; done) | (simp; omega) | (simp at *; omega)) _) | (with_reducible refine Below.setCell ?_ (by first | omega | (simp; done) | (simp; omega) | (simp at *; omega)) _) | (with_reducible exact Below.refl _ _) | (with_reducible assumption) | (with_reducible refine Below.trans ?_ (Below.mono (by assumption) (by first | omega | (simp; done) | (simp; omega) | (simp at *; omega))))))))) (Lib.hid (hD.out.below (by (repeat (first | (with_reducible refine Below.drew ?_) | (with_reducible refine below_drewN ?_ _) | (with_reducible refine Below.alloc ?_ (by first | omega | (simp; done) | (simp; omega) | (simp at *; omega)) _) | (with_reducible refine Below.setCell ?_ (by first | omega | (simp; done) | (simp; omega) | (simp at *; omega)) _) | (with_reducible exact Below.refl _ _) | (with_reducible assumption) | (with_reducible refine Below.trans ?_ (Below.mono (by assumption) (by first | omega | (simp; done) | (simp; omega) | (simp at *; omega))))))))) htn htl (Lib.hid (hT.out.below (by (repeat (first | (with_reducible refine Below.drew ?_) | (with_reducible refine below_drewN ?_ _) | (with_reducible refine Below.alloc ?_ (by first | omega | (simp; done) | (simp; omega) | (simp at *; omega)) _) | (with_reducible refine Below.setCell ?_ (by first | omega | (simp; done) | (simp; omega) | (simp at *; omega)) _) | (with_reducible exact Below.refl _ _) | (with_reducible assumption) | (with_reducible refine Below.trans ?_ (Below.mono (by assumption) (by first | omega | (simp; done) | (simp; omega) | (simp at *; omega))))))))) hE0 hE1 hF2 hEf).mono ?_
  rintro e x5 ⟨rfl, hb5⟩
  have hc5 : Below y3v3.heap.size y3v3 x5 := hb5
  have hB5 : Below w.heap.size w x5 := hB4.trans (hc5.mono hB4.size)
  have zu5 := hB5.size
  replace HL := Lib.hid (HL.out.below hc5)
  replace PB := Lib.hid (PB.out.below hc5)
  replace RB := Lib.hid (RB.out.below hc5)
  clear PB_4_0 PB_4_1 PB_4_2 PB_4_3 lPB_4 nPB_4 mPB_4 RB_4_0 RB_4_1 RB_4_2 RB_4_3 RB_4_4 RB_4_5 RB_4_6 RB_4_7 RB_4_8 lRB_4 nRB_4 mRB_4
  clear hb5 hB4 zu4 hc4
  obtain ⟨PB_5_0, PB_5_1, PB_5_2, PB_5_3⟩ := b4 PB.out
  have lPB_5 := PB.out.lt
  have nPB_5 : x5.heap.size ≠ w.heap.size := by omega
  have mPB_5 : w.heap.size ≠ x5.heap.size := by omega
  obtain ⟨RB_5_0, RB_5_1, RB_5_2, RB_5_3, RB_5_4, RB_5_5, RB_5_6, RB_5_7, RB_5_8⟩ := b9 RB.out
  have lRB_5 := RB.out.lt
  have nRB_5 : x5.heap.size ≠ w.heap.size + 1 := by omega
  have mRB_5 : w.heap.size + 1 ≠ x5.heap.size := by omega
  go_wp2_with fail
  refine (refReserves_is nm s G D A B gn gc dn dc T r AT tn tc gF vF sF NN _ hgn hdn (Lib.hid (hG.out.below (by (repeat (first | (with_reducible refine Below.drew ?_) | (with_reducible refine below_drewN ?_ _) | (with_reducible refine Below.alloc ?_ (by first | omega | (simp; done) | (simp; omega) | (simp at *; omega)) _) | (with_reducible refine Below.setCell ?_ (by first | omega | (simp; done) | (simp; omega) | (simp at *; omega)) _) | (with_reducible exact Below.refl _ _) | (with_reducible assumption) | (with_reducible refine Below.trans ?_ (Below.mono (by assumption) (by first | omega | (simp; done) | (simp; omega) | (simp at *; omega))))))))) (Lib.hid (hD.out.below (by (repeat (first | (with_reducible refine Below.drew ?_) | (with_reducible refine below_drewN ?_ _) | (with_reducible refine Below.alloc ?_ (by first | omega | (simp; done) | (simp; omega) | (simp at *; omega)) _) | (with_reducible refine Below.setCell ?_ (by first | omega | (simp; done) | (simp; omega) | (simp at *; omega)) _) | (with_reducible exact Below.refl _ _) | (with_reducible assumption) | (with_reducible refine Below.trans ?_ (Below.mono (by assumption) (by first | omega | (simp; done) | (simp; omega) | (simp at *; omega))))))))) hF9 hok hru hS9 hNN).mono ?_
  rintro e x6 ⟨wb, cw, rfl, hsw, hwge, hb6⟩
  have hc6 : Below x5.heap.size x5 x6 := hb6
  have hB6 : Below w.heap.size w x6 := hB5.trans (hc6.mono hB5.size)
  have zu6 := hB6.size
  replace HL := Lib.hid (HL.out.below hc6)
  replace PB := Lib.hid (PB.out.below hc6)
  replace RB := Lib.hid (RB.out.below hc6)
  rw [hrw.out] at hsw
  have HW := Lib.hid hsw
  clear hsw hwge
  clear PB_5_0 PB_5_1 PB_5_2 PB_5_3 lPB_5 nPB_5 mPB_5 RB_5_0 RB_5_1 RB_5_2 RB_5_3 RB_5_4 RB_5_5 RB_5_6 RB_5_7 RB_5_8 lRB_5 nRB_5 mRB_5
  clear hb6 hB5 zu5 hc5
  obtain ⟨PB_6_0, PB_6_1, PB_6_2, PB_6_3⟩ := b4 PB.out
  have lPB_6 := PB.out.lt
  have nPB_6 : x6.heap.size ≠ w.heap.size := by omega
  have mPB_6 : w.heap.size ≠ x6.heap.size := by omega
  obtain ⟨RB_6_0, RB_6_1, RB_6_2, RB_6_3, RB_6_4, RB_6_5, RB_6_6, RB_6_7, RB_6_8⟩ := b9 RB.out
  have lRB_6 := RB.out.lt
  have nRB_6 : x6.heap.size ≠ w.heap.size + 1 := by omega
  have mRB_6 : w.heap.size + 1 ≠ x6.heap.size := by omega
  clear PB_6_0 PB_6_1 PB_6_2 PB_6_3 lPB_6 nPB_6 mPB_6 RB_6_0 RB_6_1 RB_6_2 RB_6_3 RB_6_4 RB_6_5 RB_6_6 RB_6_7 RB_6_8 lRB_6 nRB_6 mRB_6
  obtain ⟨M, hM⟩ : ∃ z, x6.heap.size = z := ⟨_, rfl⟩
  have lPM := PB.out.lt
  have lRM := RB.out.lt
  have llM : lb < M := by rcases HL.out with h | ⟨b, o, e, hl, _⟩; (rw [h] at hln0; simp at hln0); (cases e; omega)
  have lwM : wb < M := by rcases HW.out with h | ⟨b, o, e, hl, _⟩; (rw [h] at hln0; simp at hln0); (cases e; omega)
  rw [hM] at lPM lRM
  have HBX := Lib.hid hB6
  have hMX : M ≤ x6.heap.size := by omega
  have HMh := Lib.hid hM
  clear hB6 zu6 hc6 hM
  go_wp2_with fail
  go_loopw [11, 12] (fun v i wr => ∃ (k : Nat) (C : Option Addr) (cm : Nat), k ≤ gn ∧ i = .int .i64 k ∧ v = .slice C k cm ∧ Hid (wr.ownsRow M 3 1 (.slice C k cm) k (rowsV inV ((l9.map (fun x => x.1)).take k))) ∧ Hid (∀ j, j < k → (l9.getD j (0, -1)).1 ≤ 1000000000) ∧ Hid (BlkF wr w.heap.size w.heap.size [.string nm, .int .i64 s, .slice A gn gc, .slice B dn dc]) ∧ Hid (BlkF wr w.heap.size (w.heap.size + 1) [.slice AT tn tc, .int .i64 r.a, .int .i64 r.b, .int .i64 r.nc, .int .i64 r.dn, .int .i64 r.br, .int .i64 r.em, .int .i64 r.pa, .int .i64 r.sc]) ∧ Hid (SlRows nvV 2 wr (some ⟨lb, 0, none⟩) l9) ∧ Hid (SlRows nvV 2 wr (some ⟨wb, 0, none⟩) l9) ∧ Hid (Below w.heap.size w wr) ∧ M ≤ wr.heap.size) (fun _ i _ => gn - (intOf i).toNat)
  case atStart => exact ⟨0, none, 0, by omega, rfl, rfl, Lib.hid ⟨by simp [rowsV], Or.inl ⟨rfl, rfl⟩⟩, Lib.hid (fun j hj => absurd hj (by omega)), PB, RB, HL, HW, HBX, hMX⟩
  case round =>
    clear PB RB HL HW HBX hMX
    obtain ⟨k, C, cm, hk, rfl, rfl, HO, H9, PB, RB, HL, HW, HBw, hMw⟩ := hrel
    have hB := HBw.out
    by_cases hkn : k < gn
    · have kn : (k : Int) < (gn : Int) := by omega
      have k0 : ¬ (k : Int) < 0 := by omega
      have kl : k < l9.length := by have := hln.out; omega
      obtain ⟨a9, ha9⟩ : ∃ z, Hid ((l9.getD k (0, -1)).1 = z) := ⟨_, Lib.hid rfl⟩
      obtain ⟨z9, hz9⟩ : ∃ z, Hid ((l9.getD k (0, -1)).2 = z) := ⟨_, Lib.hid rfl⟩
      obtain ⟨a0, a1⟩ := sl_nv HL.out kl ha9.out hz9.out
      obtain ⟨b0, b1⟩ := sl_nv HW.out kl ha9.out hz9.out
      have llb : lb < wr.heap.size := by omega
      have lwb : wb < wr.heap.size := by omega
      have hEq := eqN2 a9 z9 a9 z9 true (by simp)
      have HS : Hid (∀ y, Below wr.heap.size wr y → y.cell? ⟨lb, k * 2, none⟩ = some (.int .i64 a9) ∧ y.cell? ⟨lb, k * 2 + 1, none⟩ = some (.int .i64 z9) ∧ y.cell? ⟨wb, k * 2, none⟩ = some (.int .i64 a9) ∧ y.cell? ⟨wb, k * 2 + 1, none⟩ = some (.int .i64 z9)) := Lib.hid fun y hy => ⟨(hy.cell (p := ⟨lb, k * 2, none⟩) llb).trans a0, (hy.cell (p := ⟨lb, k * 2 + 1, none⟩) llb).trans a1, (hy.cell (p := ⟨wb, k * 2, none⟩) lwb).trans b0, (hy.cell (p := ⟨wb, k * 2 + 1, none⟩) lwb).trans b1⟩
      have hwk : IntKind.i64.wrap ((k : Int) + 1) = (k : Int) + 1 := IntWalk.i64_in _ (by omega)
      clear a1 b0 b1
      go_upto_region 16 with (fail)
      refine wp_region_held_drew (S := (fun w' => w'.cell? ⟨lb, k * 2, none⟩ = some (.int .i64 a9) ∧ w'.cell? ⟨lb, k * 2 + 1, none⟩ = some (.int .i64 z9) ∧ w'.cell? ⟨wb, k * 2, none⟩ = some (.int .i64 a9) ∧ w'.cell? ⟨wb, k * 2 + 1, none⟩ = some (.int .i64 z9))) (by kernel_rfl) (HS.out _ (Below.refl _ _).drew) (fun hHeld => ?_)
      have hT0 : Below wr.heap.size wr wr.drew := (Below.refl _ _).drew
      generalize hdr : wr.drew = v0 at *
      clear hdr
      refine tkH 0 ⟨some 67, _, _, _, _, _⟩ ?_ rfl ?_ (by assumption) ?_
      rotate_left
      · (intro w hSw; (try dsimp only at hSw); go_simp; all_goals with_reducible rfl)
      try simp only [Act.put, sA, sB, sC]
      refine tkH 1 ⟨some 68, _, _, _, _, _⟩ ?_ rfl ?_ (by assumption) ?_
      rotate_left
      · (intro w hSw; (try dsimp only at hSw); go_simp; all_goals with_reducible rfl)
      try simp only [Act.put, sA, sB, sC]
      refine tkH 2 ⟨some 69, _, _, _, _, _⟩ ?_ rfl ?_ (by assumption) ?_
      rotate_left
      · (intro w hSw; (try dsimp only at hSw); go_simp; all_goals with_reducible rfl)
      try simp only [Act.put, sA, sB, sC]
      refine tkH 3 ⟨some 70, _, _, _, _, _⟩ ?_ rfl ?_ (by assumption) ?_
      rotate_left
      · (intro w hSw; (try dsimp only at hSw); go_simp; all_goals with_reducible rfl)
      try simp only [Act.put, sA, sB, sC]
      refine tkH 4 ⟨some 71, _, _, _, _, _⟩ ?_ rfl ?_ (by assumption) ?_
      rotate_left
      · (intro w hSw; (try dsimp only at hSw); go_simp; all_goals with_reducible rfl)
      try simp only [Act.put, sA, sB, sC]
      refine tkH 5 ⟨some 72, _, _, _, _, _⟩ ?_ rfl ?_ (by assumption) ?_
      rotate_left
      · (intro w hSw; (try dsimp only at hSw); go_simp; all_goals with_reducible rfl)
      try simp only [Act.put, sA, sB, sC]
      refine tkH 6 ⟨some 73, _, _, _, _, _⟩ ?_ rfl ?_ (by assumption) ?_
      rotate_left
      · (intro w hSw; (try dsimp only at hSw); go_simp; all_goals with_reducible rfl)
      try simp only [Act.put, sA, sB, sC]
      refine tkH 7 ⟨some 74, _, _, _, _, _⟩ ?_ rfl ?_ (by assumption) ?_
      rotate_left
      · (intro w hSw; (try dsimp only at hSw); go_simp; all_goals with_reducible rfl)
      try simp only [Act.put, sA, sB, sC]
      refine tkH 8 ⟨some 75, _, _, _, _, _⟩ ?_ rfl ?_ (by assumption) ?_
      rotate_left
      · (intro w hSw; (try dsimp only at hSw); go_simp; all_goals with_reducible rfl)
      try simp only [Act.put, sA, sB, sC]
      refine wpAnyH_done (by kernel_rfl) ?_ _
      have hT9 := hT0
      obtain ⟨z, rfl⟩ : ∃ z, z = v0 := ⟨_, rfl⟩
      clear hHeld HS
      have hBz := hB.trans (hT9.mono hB.size)
      replace PB := Lib.hid (PB.out.below hT9)
      replace RB := Lib.hid (RB.out.below hT9)
      replace HL := Lib.hid (HL.out.below hT9)
      replace HW := Lib.hid (HW.out.below hT9)
      replace HO := Lib.hid (own_belowG HO.out hT9 (Nat.le_refl _))
      have hMz := Nat.le_trans hMw hT9.size
      have a0z := (hT9.cell (p := ⟨lb, k * 2, none⟩) llb).trans a0
      clear hT9 a0 hB hMw
      clear hEq
      by_cases hbig : 1000000000 < a9
      · clear HO H9
        go_wp2
        go_ret
        first | exact ⟨rfl, hBz⟩ | (simp; exact hBz)
      · have hnb : ¬ 1000000000 < a9 := hbig
        obtain ⟨XS, hXS⟩ : ∃ z, Hid ((l9.map (fun x => x.1)).take k = z) := ⟨_, Lib.hid rfl⟩
        rw [hXS.out] at HO
        have hXl : Hid (XS.length = k) := Lib.hid (by rw [← hXS.out, List.length_take, List.length_map]; omega)
        have hXn : Hid ((l9.map (fun x => x.1)).take (k + 1) = XS ++ [a9]) := Lib.hid (by
          rw [List.take_add_one, hXS.out, List.getElem?_map, List.getElem?_eq_getElem kl]
          have e3 : l9[k] = l9.getD k (0, -1) := by rw [List.getD_eq_getElem?_getD, List.getElem?_eq_getElem kl]; rfl
          rw [e3]
          simp only [Option.map_some, ha9.out, Option.toList_some])
        have H92 : Hid (∀ j, j < k + 1 → (l9.getD j (0, -1)).1 ≤ 1000000000) := Lib.hid fun j hj => by
          by_cases e : j = k
          · rw [e, ha9.out]; omega
          · exact H9.out j (by omega)
        have lPz := lPM
        clear hbig H9
        go_wp2_with (at_builtin; refine wpList_append_slG rfl _ _ 42 rfl M 3 i0 (.int .i64 0) 1 8 Tryz.underlying42 HI.out HZ0.out HZ1.out HZ2.out rfl (by decide) (.slice C k cm) k (rowsV inV XS) rfl (own_belowG HO.out ((Below.refl _ _).alloc (Nat.le_refl _) _) (Nat.le_refl _)) (some ⟨z.heap.size, 0, none⟩) 1 1 [.int .i64 a9] rfl (fun h => by cases h) rfl (fun ad had j v hj => by cases had; rw [addNR, Nat.zero_add]; exact (BlkF.made (B := 0) z [.int .i64 a9] 3 (Nat.zero_le _)).at' j v hj) (by intro v hv; simp at hv; subst hv; rfl) (by unfold maxLen; omega) (by omega) (by simp; omega) ?_)
        intro rv X0 hown hgrow hblk
        have hNX : Below M z X0 := ((Below.refl M z).alloc (by omega) _).grown hgrow (by simp; omega) (fun r hr => (own_blockG HO.out r hr).1)
        obtain ⟨A5, c5, hrv, y9, y8, y7, y6, y5⟩ := SlRows_own (f := inV) (n := 1) (L := XS ++ [a9]) (fun _ => rfl) (by rw [rowsV_appG, List.length_append, hXl.out]; exact hown)
        clear y9 y8 y7 y6 y5
        rw [show (XS ++ [a9]).length = k + 1 by simp [hXl.out]] at hrv
        subst hrv
        have HO2 : Hid (X0.ownsRow M 3 1 (.slice A5 (k + 1) c5) (k + 1) (rowsV inV ((l9.map (fun x => x.1)).take (k + 1)))) := Lib.hid (by rw [hXn.out, rowsV_appG]; exact hown)
        have P2 := Lib.hid (PB.out.low hNX lPM)
        have R2 := Lib.hid (RB.out.low hNX lRM)
        have L2 := Lib.hid (sl_low HL.out hNX llM)
        have W2 := Lib.hid (sl_low HW.out hNX lwM)
        have hB2 := Lib.hid (hBz.trans (hNX.mono (by omega)))
        have hz3 := Nat.le_trans hMz hNX.size
        clear hown hgrow hblk hNX HO PB RB HL HW hXS hXl hXn hBz hMz a0z llb lwb
        go_wp2
        go_roundw
        case rel => exact ⟨k + 1, A5, c5, by omega, by go_num, rfl, HO2, H92, P2, R2, L2, W2, hB2, hz3⟩
        case measure => simp [intOf]; omega
    · have kn : ¬ (k : Int) < (gn : Int) := by omega
      obtain rfl : gn = k := by omega
      have hLL : (l9.map (fun x => x.1)).take gn = l9.map (fun x => x.1) := List.take_of_length_le (by rw [List.length_map, hln.out]; exact Nat.le_refl _)
      rw [hLL] at HO
      obtain ⟨mb, zs, rfl, hmb, BM⟩ := own_boxI HO.out g0
      have HM := Lib.hid BM
      obtain ⟨L, hL⟩ : ∃ z, Hid (l9.map (fun x => x.1) = z) := ⟨_, Lib.hid rfl⟩
      have hEA := rva_am hln.out hch.out H9.out
      have hle := rva_le hln.out hch.out hgL.out
      rw [hL.out] at HM hEA hle
      have hLn : Hid (gn = L.length) := Lib.hid (by rw [← hL.out, List.length_map, hln.out])
      have hE4 : Hid (firE [0, 0, amE L gn, if 20000 < secT D dn then (8 : Int) else 0] = 0) := Lib.hid (by rw [hEA, hF2.out]; rfl)
      have hk2 : Hid (∀ j, j < NN → vF j ≤ L.getD (gF j) 0) := Lib.hid hle
      have hk3 : Hid (NN < NN → L.getD (gF NN) 0 < vF NN) := Lib.hid fun h => absurd h (by omega)
      have hk1 : Hid (NN ≤ NN) := Lib.hid (Nat.le_refl _)
      have hkN : Hid (¬ NN < NN) := Lib.hid (by omega)
      have HH9 := H9
      have hB30 := hB
      have zu30 := hB30.size
      have hc30 := hB30
      have hwlb : w.heap.size ≤ lb ∨ True := Or.inr trivial
      clear HO BM hLL hEA hle hB HBw hMw H9 hwlb hc30
      obtain ⟨PB_30_0, PB_30_1, PB_30_2, PB_30_3⟩ := b4 PB.out
      have lPB_30 := PB.out.lt
      have nPB_30 : wr.heap.size ≠ w.heap.size := by omega
      have mPB_30 : w.heap.size ≠ wr.heap.size := by omega
      obtain ⟨RB_30_0, RB_30_1, RB_30_2, RB_30_3, RB_30_4, RB_30_5, RB_30_6, RB_30_7, RB_30_8⟩ := b9 RB.out
      have lRB_30 := RB.out.lt
      have nRB_30 : wr.heap.size ≠ w.heap.size + 1 := by omega
      have mRB_30 : w.heap.size + 1 ≠ wr.heap.size := by omega
      go_upto_region 21 with (fail)
      have HS : Hid (∀ y, Below wr.heap.size wr y → y.cell? ⟨w.heap.size, 0, none⟩ = some (.string nm) ∧ y.cell? ⟨w.heap.size, 1, none⟩ = some (.int .i64 s) ∧ y.cell? ⟨w.heap.size, 2, none⟩ = some (.slice A gn gc) ∧ y.cell? ⟨w.heap.size, 3, none⟩ = some (.slice B dn dc) ∧ y.cell? ⟨w.heap.size + 1, 0, none⟩ = some (.slice AT tn tc) ∧ y.cell? ⟨w.heap.size + 1, 1, none⟩ = some (.int .i64 r.a) ∧ y.cell? ⟨w.heap.size + 1, 2, none⟩ = some (.int .i64 r.b) ∧ y.cell? ⟨w.heap.size + 1, 3, none⟩ = some (.int .i64 r.nc) ∧ y.cell? ⟨w.heap.size + 1, 4, none⟩ = some (.int .i64 r.dn) ∧ y.cell? ⟨w.heap.size + 1, 5, none⟩ = some (.int .i64 r.br) ∧ y.cell? ⟨w.heap.size + 1, 6, none⟩ = some (.int .i64 r.em) ∧ y.cell? ⟨w.heap.size + 1, 7, none⟩ = some (.int .i64 r.pa) ∧ y.cell? ⟨w.heap.size + 1, 8, none⟩ = some (.int .i64 r.sc)) := Lib.hid fun y hy => ⟨(hy.cell (p := ⟨w.heap.size, 0, none⟩) lPB_30).trans PB_30_0, (hy.cell (p := ⟨w.heap.size, 1, none⟩) lPB_30).trans PB_30_1, (hy.cell (p := ⟨w.heap.size, 2, none⟩) lPB_30).trans PB_30_2, (hy.cell (p := ⟨w.heap.size, 3, none⟩) lPB_30).trans PB_30_3, (hy.cell (p := ⟨w.heap.size + 1, 0, none⟩) lRB_30).trans RB_30_0, (hy.cell (p := ⟨w.heap.size + 1, 1, none⟩) lRB_30).trans RB_30_1, (hy.cell (p := ⟨w.heap.size + 1, 2, none⟩) lRB_30).trans RB_30_2, (hy.cell (p := ⟨w.heap.size + 1, 3, none⟩) lRB_30).trans RB_30_3, (hy.cell (p := ⟨w.heap.size + 1, 4, none⟩) lRB_30).trans RB_30_4, (hy.cell (p := ⟨w.heap.size + 1, 5, none⟩) lRB_30).trans RB_30_5, (hy.cell (p := ⟨w.heap.size + 1, 6, none⟩) lRB_30).trans RB_30_6, (hy.cell (p := ⟨w.heap.size + 1, 7, none⟩) lRB_30).trans RB_30_7, (hy.cell (p := ⟨w.heap.size + 1, 8, none⟩) lRB_30).trans RB_30_8⟩
      refine wp_region_held_drew (S := (fun w' => w'.cell? ⟨w.heap.size, 0, none⟩ = some (.string nm) ∧ w'.cell? ⟨w.heap.size, 1, none⟩ = some (.int .i64 s) ∧ w'.cell? ⟨w.heap.size, 2, none⟩ = some (.slice A gn gc) ∧ w'.cell? ⟨w.heap.size, 3, none⟩ = some (.slice B dn dc) ∧ w'.cell? ⟨w.heap.size + 1, 0, none⟩ = some (.slice AT tn tc) ∧ w'.cell? ⟨w.heap.size + 1, 1, none⟩ = some (.int .i64 r.a) ∧ w'.cell? ⟨w.heap.size + 1, 2, none⟩ = some (.int .i64 r.b) ∧ w'.cell? ⟨w.heap.size + 1, 3, none⟩ = some (.int .i64 r.nc) ∧ w'.cell? ⟨w.heap.size + 1, 4, none⟩ = some (.int .i64 r.dn) ∧ w'.cell? ⟨w.heap.size + 1, 5, none⟩ = some (.int .i64 r.br) ∧ w'.cell? ⟨w.heap.size + 1, 6, none⟩ = some (.int .i64 r.em) ∧ w'.cell? ⟨w.heap.size + 1, 7, none⟩ = some (.int .i64 r.pa) ∧ w'.cell? ⟨w.heap.size + 1, 8, none⟩ = some (.int .i64 r.sc))) (by kernel_rfl) (HS.out _ (Below.refl _ _).drew) (fun hHeld => ?_)
      have hT0 : Below wr.heap.size wr wr.drew := (Below.refl _ _).drew
      replace HM := Lib.hid (HM.out.below (Below.refl wr.heap.size wr).drew)
      generalize hdr : wr.drew = y30v0 at *
      clear hdr
      refine tkH 0 ⟨some 91, _, _, _, _, _⟩ ?_ rfl ?_ (by assumption) ?_
      rotate_left
      · (intro w hSw; (try dsimp only at hSw); go_simp; all_goals with_reducible rfl)
      try simp only [Act.put, sA, sB, sC]
      refine tkH 2 ⟨some 93, _, _, _, _, _⟩ ?_ rfl ?_ (by assumption) ?_
      rotate_left
      · (intro w hSw; (try dsimp only at hSw); go_simp; all_goals with_reducible rfl)
      try simp only [Act.put, sA, sB, sC]
      refine tkH 4 ⟨some 95, _, _, _, _, _⟩ ?_ rfl ?_ (by assumption) ?_
      rotate_left
      · (intro w hSw; (try dsimp only at hSw); go_simp; all_goals with_reducible rfl)
      try simp only [Act.put, sA, sB, sC]
      refine wpAnyH_ready (rs := [1]) (by kernel_rfl) (by simp) ?_
      refine AllReadyH.cons rfl (fun K hK => ?_) (AllReadyH.nil)
      go_simp
      refine (copyP_is nm s G D A B gn gc dn dc _ hgn hdn hg6 hd6 (Lib.hid (hG.out.below (hB30.trans (hT0.mono hB30.size)))) (Lib.hid (hD.out.below (hB30.trans (hT0.mono hB30.size)))) CG CD).mono ?_
      rintro e y30v1 ⟨A3, ca3, B3, cb3, rfl, hsg, hsd, hna, hnb, hby30v0⟩
      have hT1 : Below wr.heap.size wr y30v1 := hT0.trans (hby30v0.mono hT0.size)
      replace HM := Lib.hid (HM.out.below hby30v0)
      have HG3 := Lib.hid hsg
      have HD3 := Lib.hid hsd
      clear hsg hsd hna hnb
      clear hby30v0
      go_wp2_with fail
      refine hK.out _ _ (HS.out _ hT1) (fun hHeld => ?_)
      clear hK K
      try simp only [Act.put, sA, sB, sC]
      refine wpAnyH_ready (rs := [3]) (by kernel_rfl) (by simp) ?_
      refine AllReadyH.cons rfl (fun K hK => ?_) (AllReadyH.nil)
      go_simp
      refine (copyR_is T r AT tn tc _ htn ht6 (Lib.hid (hT.out.below (hB30.trans (hT1.mono hB30.size)))) CT).mono ?_
      rintro e y30v2 ⟨AT3, ct3, rfl, hst, hby30v1⟩
      have hT2 : Below wr.heap.size wr y30v2 := hT1.trans (hby30v1.mono hT1.size)
      replace HM := Lib.hid (HM.out.below hby30v1)
      replace HG3 := Lib.hid (HG3.out.below hby30v1)
      replace HD3 := Lib.hid (HD3.out.below hby30v1)
      have HT3 := Lib.hid hst
      clear hst
      clear hby30v1
      go_wp2_with fail
      refine hK.out _ _ (HS.out _ hT2) (fun hHeld => ?_)
      clear hK K
      try simp only [Act.put, sA, sB, sC]
      refine wpAnyH_ready (rs := [5]) (by kernel_rfl) (by simp) ?_
      refine AllReadyH.cons rfl (fun K hK => ?_) (AllReadyH.nil)
      go_simp
      refine (copyIn_is L (some ⟨mb, 0, none⟩) cm gn _ hLn hg6 (Lib.hid (box_slI HM.out)) (Lib.hid (fun e => by cases e))).mono ?_
      rintro e y30v3 ⟨C3, cc3, rfl, hsc, hnc, hnd, hby30v2⟩
      have hT3 : Below wr.heap.size wr y30v3 := hT2.trans (hby30v2.mono hT2.size)
      replace HM := Lib.hid (HM.out.below hby30v2)
      replace HG3 := Lib.hid (HG3.out.below hby30v2)
      replace HD3 := Lib.hid (HD3.out.below hby30v2)
      replace HT3 := Lib.hid (HT3.out.below hby30v2)
      have HC3 := Lib.hid hsc
      clear hsc hnc hnd
      clear hby30v2
      go_wp2_with fail
      refine hK.out _ _ (HS.out _ hT3) (fun hHeld => ?_)
      clear hK K
      try simp only [Act.put, sA, sB, sC]
      refine wpAnyH_ready (rs := [6]) (by kernel_rfl) (by simp) ?_
      refine AllReadyH.cons rfl (fun K hK => ?_) (AllReadyH.nil)
      go_simp
      refine (Survives_f nm s G D A3 B3 gn ca3 dn cb3 T r AT3 tn ct3 L C3 gn cc3 N NN NN gF vF sF _ hz hgn hgl hdn hdl HG3 HD3 htn htl HT3 hLn hg6 HC3 hE0 hE1 hE4 hF9 hok hru hS9 hNN hgL hk1 hk2 hk3 hkN).mono ?_
      rintro e y30v4 ⟨rfl, hby30v3⟩
      have hT4 : Below wr.heap.size wr y30v4 := hT3.trans (hby30v3.mono hT3.size)
      replace HM := Lib.hid (HM.out.below hby30v3)
      replace HG3 := Lib.hid (HG3.out.below hby30v3)
      replace HD3 := Lib.hid (HD3.out.below hby30v3)
      replace HT3 := Lib.hid (HT3.out.below hby30v3)
      replace HC3 := Lib.hid (HC3.out.below hby30v3)
      clear hby30v3
      go_wp2_with fail
      refine hK.out _ _ (HS.out _ hT4) (fun hHeld => ?_)
      clear hK K
      try simp only [Act.put, sA, sB, sC]
      refine tkH 7 ⟨some 90, _, _, _, _, _⟩ ?_ rfl ?_ (by assumption) ?_
      rotate_left
      · (intro w hSw; (try dsimp only at hSw); go_simp; all_goals with_reducible rfl)
      try simp only [Act.put, sA, sB, sC]
      refine tkH 8 ⟨some 98, _, _, _, _, _⟩ ?_ rfl ?_ (by assumption) ?_
      rotate_left
      · (intro w hSw; (try dsimp only at hSw); go_simp; all_goals with_reducible rfl)
      try simp only [Act.put, sA, sB, sC]
      refine tkH 9 ⟨some 99, _, _, _, _, _⟩ ?_ rfl ?_ (by assumption) ?_
      rotate_left
      · (intro w hSw; (try dsimp only at hSw); go_simp; all_goals with_reducible rfl)
      try simp only [Act.put, sA, sB, sC]
      refine tkH 10 ⟨some 13, _, _, _, _, _⟩ ?_ rfl ?_ (by assumption) ?_
      rotate_left
      · (intro w hSw; (try dsimp only at hSw); go_simp; all_goals with_reducible rfl)
      try simp only [Act.put, sA, sB, sC]
      refine tkH 11 ⟨some 14, _, _, _, _, _⟩ ?_ rfl ?_ (by assumption) ?_
      rotate_left
      · (intro w hSw; (try dsimp only at hSw); go_simp; all_goals with_reducible rfl)
      try simp only [Act.put, sA, sB, sC]
      refine wpAnyH_done (by kernel_rfl) ?_ _
      have hc31 : Below wr.heap.size wr y30v4 := hT4
      have hB31 : Below w.heap.size w y30v4 := hB30.trans (hc31.mono hB30.size)
      have zu31 := hB31.size
      replace HL := Lib.hid (HL.out.below hc31)
      replace HW := Lib.hid (HW.out.below hc31)
      replace PB := Lib.hid (PB.out.below hc31)
      replace RB := Lib.hid (RB.out.below hc31)
      clear PB_30_0 PB_30_1 PB_30_2 PB_30_3 lPB_30 nPB_30 mPB_30 RB_30_0 RB_30_1 RB_30_2 RB_30_3 RB_30_4 RB_30_5 RB_30_6 RB_30_7 RB_30_8 lRB_30 nRB_30 mRB_30
      clear HS hHeld hT0 hT1 hT2 hT3 hT4 hB30 zu30
      obtain ⟨PB_31_0, PB_31_1, PB_31_2, PB_31_3⟩ := b4 PB.out
      have lPB_31 := PB.out.lt
      have nPB_31 : y30v4.heap.size ≠ w.heap.size := by omega
      have mPB_31 : w.heap.size ≠ y30v4.heap.size := by omega
      obtain ⟨RB_31_0, RB_31_1, RB_31_2, RB_31_3, RB_31_4, RB_31_5, RB_31_6, RB_31_7, RB_31_8⟩ := b9 RB.out
      have lRB_31 := RB.out.lt
      have nRB_31 : y30v4.heap.size ≠ w.heap.size + 1 := by omega
      have mRB_31 : w.heap.size + 1 ≠ y30v4.heap.size := by omega
      clear HG3
      clear HD3
      clear HT3
      clear HC3
      go_wp2_with fail
      refine (refSeconds_is nm s G D A B gn gc dn dc (secT D dn) _ hgn hdn hok (Lib.hid (hG.out.below (by (repeat (first | (with_reducible refine Below.drew ?_) | (with_reducible refine below_drewN ?_ _) | (with_reducible refine Below.alloc ?_ (by first | omega | (simp; done) | (simp; omega) | (simp at *; omega)) _) | (with_reducible refine Below.setCell ?_ (by first | omega | (simp; done) | (simp; omega) | (simp at *; omega)) _) | (with_reducible exact Below.refl _ _) | (with_reducible assumption) | (with_reducible refine Below.trans ?_ (Below.mono (by assumption) (by first | omega | (simp; done) | (simp; omega) | (simp at *; omega))))))))) (Lib.hid (hD.out.below (by (repeat (first | (with_reducible refine Below.drew ?_) | (with_reducible refine below_drewN ?_ _) | (with_reducible refine Below.alloc ?_ (by first | omega | (simp; done) | (simp; omega) | (simp at *; omega)) _) | (with_reducible refine Below.setCell ?_ (by first | omega | (simp; done) | (simp; omega) | (simp at *; omega)) _) | (with_reducible exact Below.refl _ _) | (with_reducible assumption) | (with_reducible refine Below.trans ?_ (Below.mono (by assumption) (by first | omega | (simp; done) | (simp; omega) | (simp at *; omega))))))))) (Lib.hid rfl)).mono ?_
      rintro e x32 ⟨rfl, hb32⟩
      have hc32 : Below y30v4.heap.size y30v4 x32 := hb32
      have hB32 : Below w.heap.size w x32 := hB31.trans (hc32.mono hB31.size)
      have zu32 := hB32.size
      replace HL := Lib.hid (HL.out.below hc32)
      replace HW := Lib.hid (HW.out.below hc32)
      replace HM := Lib.hid (HM.out.below hc32)
      replace PB := Lib.hid (PB.out.below hc32)
      replace RB := Lib.hid (RB.out.below hc32)
      clear PB_31_0 PB_31_1 PB_31_2 PB_31_3 lPB_31 nPB_31 mPB_31 RB_31_0 RB_31_1 RB_31_2 RB_31_3 RB_31_4 RB_31_5 RB_31_6 RB_31_7 RB_31_8 lRB_31 nRB_31 mRB_31
      clear hb32 hB31 zu31 hc31
      obtain ⟨PB_32_0, PB_32_1, PB_32_2, PB_32_3⟩ := b4 PB.out
      have lPB_32 := PB.out.lt
      have nPB_32 : x32.heap.size ≠ w.heap.size := by omega
      have mPB_32 : w.heap.size ≠ x32.heap.size := by omega
      obtain ⟨RB_32_0, RB_32_1, RB_32_2, RB_32_3, RB_32_4, RB_32_5, RB_32_6, RB_32_7, RB_32_8⟩ := b9 RB.out
      have lRB_32 := RB.out.lt
      have nRB_32 : x32.heap.size ≠ w.heap.size + 1 := by omega
      have mRB_32 : w.heap.size + 1 ≠ x32.heap.size := by omega
      go_wp2_with fail
      refine (rvMod q (gn : Int) (kq : Int) _ (by omega) (by omega) hkq).mono ?_
      rintro e x33 ⟨rfl, hb33⟩
      have hc33 : Below x32.heap.size x32 x33 := hb33
      have hB33 : Below w.heap.size w x33 := hB32.trans (hc33.mono hB32.size)
      have zu33 := hB33.size
      replace HL := Lib.hid (HL.out.below hc33)
      replace HW := Lib.hid (HW.out.below hc33)
      replace HM := Lib.hid (HM.out.below hc33)
      replace PB := Lib.hid (PB.out.below hc33)
      replace RB := Lib.hid (RB.out.below hc33)
      clear PB_32_0 PB_32_1 PB_32_2 PB_32_3 lPB_32 nPB_32 mPB_32 RB_32_0 RB_32_1 RB_32_2 RB_32_3 RB_32_4 RB_32_5 RB_32_6 RB_32_7 RB_32_8 lRB_32 nRB_32 mRB_32
      clear hb33 hB32 zu32 hc32
      obtain ⟨PB_33_0, PB_33_1, PB_33_2, PB_33_3⟩ := b4 PB.out
      have lPB_33 := PB.out.lt
      have nPB_33 : x33.heap.size ≠ w.heap.size := by omega
      have mPB_33 : w.heap.size ≠ x33.heap.size := by omega
      obtain ⟨RB_33_0, RB_33_1, RB_33_2, RB_33_3, RB_33_4, RB_33_5, RB_33_6, RB_33_7, RB_33_8⟩ := b9 RB.out
      have lRB_33 := RB.out.lt
      have nRB_33 : x33.heap.size ≠ w.heap.size + 1 := by omega
      have mRB_33 : w.heap.size + 1 ≠ x33.heap.size := by omega
      clear PB_33_0 PB_33_1 PB_33_2 PB_33_3 lPB_33 nPB_33 mPB_33 RB_33_0 RB_33_1 RB_33_2 RB_33_3 RB_33_4 RB_33_5 RB_33_6 RB_33_7 RB_33_8 lRB_33 nRB_33 mRB_33
      have kql : kq < l9.length := by have := hln.out; omega
      obtain ⟨a9, ha9⟩ : ∃ z, Hid ((l9.getD kq (0, -1)).1 = z) := ⟨_, Lib.hid rfl⟩
      obtain ⟨z9, hz9⟩ : ∃ z, Hid ((l9.getD kq (0, -1)).2 = z) := ⟨_, Lib.hid rfl⟩
      obtain ⟨a0, a1⟩ := sl_nv HL.out kql ha9.out hz9.out
      have hLq : kq < L.length := by have := hLn.out; omega
      have hLa : L[kq] = a9 := by
        have e : L.getD kq 0 = a9 := by rw [← hL.out, map_getD1 kql]; exact ha9.out
        rw [List.getD_eq_getElem?_getD, List.getElem?_eq_getElem hLq] at e
        exact e
      have m0 := sl_intA (box_slI HM.out) hLq hLa
      rw [Nat.zero_add] at m0
      have q0 : ¬ (kq : Int) < 0 := by omega
      have q1 : (kq : Int) < (gn : Int) := by omega
      have c0 := (b4 PB.out).1
      by_cases hzn : z9 < 0
      · clear a0 hLa
        go_wp2
        go_ret
        first | exact ⟨rfl, hB33⟩ | (simp; exact hB33)
      by_cases haz : a9 = 0
      · have haz2 : (a9 == 0) = true := by simpa using haz
        have HAZ := Lib.hid haz
        clear haz hLa
        go_wp2
        go_ret
        first | exact ⟨rfl, hB33⟩ | (simp; exact hB33)
      have hap : 0 < a9 := by have h := (hch.out kq (by omega)).1; rw [ha9.out] at h; omega
      obtain ⟨kk, hkk, hks, hj2, hj3, hj4⟩ := rva_less hln.out hch.out hgL.out HH9.out (show kq < gn by omega) ha9.out hz9.out hap
      rw [hL.out] at hj2 hj3 hj4
      obtain ⟨L2, hL2⟩ : ∃ z, Hid (L.set kq (a9 - 1) = z) := ⟨_, Lib.hid rfl⟩
      rw [hL2.out] at hj2 hj3 hj4
      have hzk : Hid (z9 = (kk : Int)) := Lib.hid (by rw [← hks, (hF9.out kk).2.2]; omega)
      have ha10 : a9 ≤ 1000000000 := by have h := HH9.out kq (by omega); rw [ha9.out] at h; exact h
      have haz2 : (a9 == 0) = false := by simpa using haz
      have wa : IntKind.i64.wrap (a9 - 1) = a9 - 1 := IntWalk.i64_in _ (by omega)
      have hLn2 : Hid (gn = L2.length) := Lib.hid (by rw [← hL2.out, List.length_set]; exact hLn.out)
      have hE42 : Hid (firE [0, 0, amE L2 gn, if 20000 < secT D dn then (8 : Int) else 0] = 0) := Lib.hid (by rw [hj4, hF2.out]; rfl)
      have hk12 : Hid (kk ≤ NN) := Lib.hid (by omega)
      have hk22 : Hid (∀ j, j < kk → vF j ≤ L2.getD (gF j) 0) := Lib.hid hj2
      have hk32 : Hid (kk < NN → L2.getD (gF kk) 0 < vF kk) := Lib.hid fun _ => hj3
      have hkN2 : Hid (kk < NN) := Lib.hid hkk
      have mf := (BoxN.blk (N := 0) HM.out (Nat.zero_le _)).fz
      have hwmb : w.heap.size ≤ mb := by omega
      have hneP : w.heap.size ≠ mb := by omega
      have hneR : w.heap.size + 1 ≠ mb := by omega
      have hneL : lb ≠ mb := by omega
      clear hj2 hj3 hj4 hks hkk hLa haz
      go_upto_region 28 with (fail)
      refine wp_worldE (fun u => BlkF u w.heap.size w.heap.size [.string nm, .int .i64 s, .slice A gn gc, .slice B dn dc] ∧ BlkF u w.heap.size (w.heap.size + 1) [.slice AT tn tc, .int .i64 r.a, .int .i64 r.b, .int .i64 r.nc, .int .i64 r.dn, .int .i64 r.br, .int .i64 r.em, .int .i64 r.pa, .int .i64 r.sc] ∧ SlRows nvV 2 u (some ⟨lb, 0, none⟩) l9 ∧ BoxN u mb 3 (rowsV inV L2 ++ zs) ∧ Below w.heap.size w u) ⟨PB.out.other (c := mb) (i := kq) (l := [.int .i64 (a9 - 1)]) hneP, RB.out.other (c := mb) (i := kq) (l := [.int .i64 (a9 - 1)]) hneR, SlRows.otherB (c := mb) (i := kq) (l := [.int .i64 (a9 - 1)]) HL.out (fun ad e => by cases e; exact hneL), by have h := HM.out.set kq (.int .i64 (a9 - 1)); rwa [rows_set_in _ zs L kq hLq, hL2.out] at h, hB33.setCell (p := ⟨mb, kq, none⟩) hwmb _⟩ (fun x60 hu60 => ?_)
      obtain ⟨p60, r60, l60, m60, hB60⟩ := hu60
      have zu60 := hB60.size
      clear PB RB HL HM HW
      have PB := Lib.hid p60
      have RB := Lib.hid r60
      have HL := Lib.hid l60
      have HM := Lib.hid m60
      clear p60 r60 l60 m60 a0 a1 m0 c0 mf hB33 zu33 hc33
      obtain ⟨PB_60_0, PB_60_1, PB_60_2, PB_60_3⟩ := b4 PB.out
      have lPB_60 := PB.out.lt
      have nPB_60 : x60.heap.size ≠ w.heap.size := by omega
      have mPB_60 : w.heap.size ≠ x60.heap.size := by omega
      obtain ⟨RB_60_0, RB_60_1, RB_60_2, RB_60_3, RB_60_4, RB_60_5, RB_60_6, RB_60_7, RB_60_8⟩ := b9 RB.out
      have lRB_60 := RB.out.lt
      have nRB_60 : x60.heap.size ≠ w.heap.size + 1 := by omega
      have mRB_60 : w.heap.size + 1 ≠ x60.heap.size := by omega
      have HS : Hid (∀ y, Below x60.heap.size x60 y → y.cell? ⟨w.heap.size, 0, none⟩ = some (.string nm) ∧ y.cell? ⟨w.heap.size, 1, none⟩ = some (.int .i64 s) ∧ y.cell? ⟨w.heap.size, 2, none⟩ = some (.slice A gn gc) ∧ y.cell? ⟨w.heap.size, 3, none⟩ = some (.slice B dn dc) ∧ y.cell? ⟨w.heap.size + 1, 0, none⟩ = some (.slice AT tn tc) ∧ y.cell? ⟨w.heap.size + 1, 1, none⟩ = some (.int .i64 r.a) ∧ y.cell? ⟨w.heap.size + 1, 2, none⟩ = some (.int .i64 r.b) ∧ y.cell? ⟨w.heap.size + 1, 3, none⟩ = some (.int .i64 r.nc) ∧ y.cell? ⟨w.heap.size + 1, 4, none⟩ = some (.int .i64 r.dn) ∧ y.cell? ⟨w.heap.size + 1, 5, none⟩ = some (.int .i64 r.br) ∧ y.cell? ⟨w.heap.size + 1, 6, none⟩ = some (.int .i64 r.em) ∧ y.cell? ⟨w.heap.size + 1, 7, none⟩ = some (.int .i64 r.pa) ∧ y.cell? ⟨w.heap.size + 1, 8, none⟩ = some (.int .i64 r.sc)) := Lib.hid fun y hy => ⟨(hy.cell (p := ⟨w.heap.size, 0, none⟩) lPB_60).trans PB_60_0, (hy.cell (p := ⟨w.heap.size, 1, none⟩) lPB_60).trans PB_60_1, (hy.cell (p := ⟨w.heap.size, 2, none⟩) lPB_60).trans PB_60_2, (hy.cell (p := ⟨w.heap.size, 3, none⟩) lPB_60).trans PB_60_3, (hy.cell (p := ⟨w.heap.size + 1, 0, none⟩) lRB_60).trans RB_60_0, (hy.cell (p := ⟨w.heap.size + 1, 1, none⟩) lRB_60).trans RB_60_1, (hy.cell (p := ⟨w.heap.size + 1, 2, none⟩) lRB_60).trans RB_60_2, (hy.cell (p := ⟨w.heap.size + 1, 3, none⟩) lRB_60).trans RB_60_3, (hy.cell (p := ⟨w.heap.size + 1, 4, none⟩) lRB_60).trans RB_60_4, (hy.cell (p := ⟨w.heap.size + 1, 5, none⟩) lRB_60).trans RB_60_5, (hy.cell (p := ⟨w.heap.size + 1, 6, none⟩) lRB_60).trans RB_60_6, (hy.cell (p := ⟨w.heap.size + 1, 7, none⟩) lRB_60).trans RB_60_7, (hy.cell (p := ⟨w.heap.size + 1, 8, none⟩) lRB_60).trans RB_60_8⟩
      refine wp_region_held_drew (S := (fun w' => w'.cell? ⟨w.heap.size, 0, none⟩ = some (.string nm) ∧ w'.cell? ⟨w.heap.size, 1, none⟩ = some (.int .i64 s) ∧ w'.cell? ⟨w.heap.size, 2, none⟩ = some (.slice A gn gc) ∧ w'.cell? ⟨w.heap.size, 3, none⟩ = some (.slice B dn dc) ∧ w'.cell? ⟨w.heap.size + 1, 0, none⟩ = some (.slice AT tn tc) ∧ w'.cell? ⟨w.heap.size + 1, 1, none⟩ = some (.int .i64 r.a) ∧ w'.cell? ⟨w.heap.size + 1, 2, none⟩ = some (.int .i64 r.b) ∧ w'.cell? ⟨w.heap.size + 1, 3, none⟩ = some (.int .i64 r.nc) ∧ w'.cell? ⟨w.heap.size + 1, 4, none⟩ = some (.int .i64 r.dn) ∧ w'.cell? ⟨w.heap.size + 1, 5, none⟩ = some (.int .i64 r.br) ∧ w'.cell? ⟨w.heap.size + 1, 6, none⟩ = some (.int .i64 r.em) ∧ w'.cell? ⟨w.heap.size + 1, 7, none⟩ = some (.int .i64 r.pa) ∧ w'.cell? ⟨w.heap.size + 1, 8, none⟩ = some (.int .i64 r.sc))) (by kernel_rfl) (HS.out _ (Below.refl _ _).drew) (fun hHeld => ?_)
      have hT0 : Below x60.heap.size x60 x60.drew := (Below.refl _ _).drew
      replace HM := Lib.hid (HM.out.below (Below.refl x60.heap.size x60).drew)
      generalize hdr : x60.drew = y60v0 at *
      clear hdr
      refine tkH 0 ⟨some 134, _, _, _, _, _⟩ ?_ rfl ?_ (by assumption) ?_
      rotate_left
      · (intro w hSw; (try dsimp only at hSw); go_simp; all_goals with_reducible rfl)
      try simp only [Act.put, sA, sB, sC]
      refine tkH 2 ⟨some 136, _, _, _, _, _⟩ ?_ rfl ?_ (by assumption) ?_
      rotate_left
      · (intro w hSw; (try dsimp only at hSw); go_simp; all_goals with_reducible rfl)
      try simp only [Act.put, sA, sB, sC]
      refine tkH 4 ⟨some 138, _, _, _, _, _⟩ ?_ rfl ?_ (by assumption) ?_
      rotate_left
      · (intro w hSw; (try dsimp only at hSw); go_simp; all_goals with_reducible rfl)
      try simp only [Act.put, sA, sB, sC]
      refine wpAnyH_ready (rs := [1]) (by kernel_rfl) (by simp) ?_
      refine AllReadyH.cons rfl (fun K hK => ?_) (AllReadyH.nil)
      go_simp
      refine (copyP_is nm s G D A B gn gc dn dc _ hgn hdn hg6 hd6 (Lib.hid (hG.out.below (hB60.trans (hT0.mono hB60.size)))) (Lib.hid (hD.out.below (hB60.trans (hT0.mono hB60.size)))) CG CD).mono ?_
      rintro e y60v1 ⟨A4, ca4, B4, cb4, rfl, hsg, hsd, hna, hnb, hby60v0⟩
      have hT1 : Below x60.heap.size x60 y60v1 := hT0.trans (hby60v0.mono hT0.size)
      replace HM := Lib.hid (HM.out.below hby60v0)
      have HG4 := Lib.hid hsg
      have HD4 := Lib.hid hsd
      clear hsg hsd hna hnb
      clear hby60v0
      go_wp2_with fail
      refine hK.out _ _ (HS.out _ hT1) (fun hHeld => ?_)
      clear hK K
      try simp only [Act.put, sA, sB, sC]
      refine wpAnyH_ready (rs := [3]) (by kernel_rfl) (by simp) ?_
      refine AllReadyH.cons rfl (fun K hK => ?_) (AllReadyH.nil)
      go_simp
      refine (copyR_is T r AT tn tc _ htn ht6 (Lib.hid (hT.out.below (hB60.trans (hT1.mono hB60.size)))) CT).mono ?_
      rintro e y60v2 ⟨AT4, ct4, rfl, hst, hby60v1⟩
      have hT2 : Below x60.heap.size x60 y60v2 := hT1.trans (hby60v1.mono hT1.size)
      replace HM := Lib.hid (HM.out.below hby60v1)
      replace HG4 := Lib.hid (HG4.out.below hby60v1)
      replace HD4 := Lib.hid (HD4.out.below hby60v1)
      have HT4 := Lib.hid hst
      clear hst
      clear hby60v1
      go_wp2_with fail
      refine hK.out _ _ (HS.out _ hT2) (fun hHeld => ?_)
      clear hK K
      try simp only [Act.put, sA, sB, sC]
      refine wpAnyH_ready (rs := [5]) (by kernel_rfl) (by simp) ?_
      refine AllReadyH.cons rfl (fun K hK => ?_) (AllReadyH.nil)
      go_simp
      refine (copyIn_is L2 (some ⟨mb, 0, none⟩) cm gn _ hLn2 hg6 (Lib.hid (box_slI HM.out)) (Lib.hid (fun e => by cases e))).mono ?_
      rintro e y60v3 ⟨C4, cc4, rfl, hsc, hnc, hnd, hby60v2⟩
      have hT3 : Below x60.heap.size x60 y60v3 := hT2.trans (hby60v2.mono hT2.size)
      replace HM := Lib.hid (HM.out.below hby60v2)
      replace HG4 := Lib.hid (HG4.out.below hby60v2)
      replace HD4 := Lib.hid (HD4.out.below hby60v2)
      replace HT4 := Lib.hid (HT4.out.below hby60v2)
      have HC4 := Lib.hid hsc
      clear hsc hnc hnd
      clear hby60v2
      go_wp2_with fail
      refine hK.out _ _ (HS.out _ hT3) (fun hHeld => ?_)
      clear hK K
      try simp only [Act.put, sA, sB, sC]
      refine wpAnyH_ready (rs := [6]) (by kernel_rfl) (by simp) ?_
      refine AllReadyH.cons rfl (fun K hK => ?_) (AllReadyH.nil)
      go_simp
      refine (Survives_t nm s G D A4 B4 gn ca4 dn cb4 T r AT4 tn ct4 L2 C4 gn cc4 N kk NN gF vF sF _ hz hgn hgl hdn hdl HG4 HD4 htn htl HT4 hLn2 hg6 HC4 hE0 hE1 hE42 hF9 hok hru hS9 hNN hgL hk12 hk22 hk32 hkN2).mono ?_
      rintro e y60v4 ⟨rfl, hby60v3⟩
      have hT4 : Below x60.heap.size x60 y60v4 := hT3.trans (hby60v3.mono hT3.size)
      replace HM := Lib.hid (HM.out.below hby60v3)
      replace HG4 := Lib.hid (HG4.out.below hby60v3)
      replace HD4 := Lib.hid (HD4.out.below hby60v3)
      replace HT4 := Lib.hid (HT4.out.below hby60v3)
      replace HC4 := Lib.hid (HC4.out.below hby60v3)
      clear hby60v3
      go_wp2_with fail
      refine hK.out _ _ (HS.out _ hT4) (fun hHeld => ?_)
      clear hK K
      try simp only [Act.put, sA, sB, sC]
      refine tkH 7 ⟨some 133, _, _, _, _, _⟩ ?_ rfl ?_ (by assumption) ?_
      rotate_left
      · (intro w hSw; (try dsimp only at hSw); go_simp; all_goals with_reducible rfl)
      try simp only [Act.put, sA, sB, sC]
      refine tkH 8 ⟨some 141, _, _, _, _, _⟩ ?_ rfl ?_ (by assumption) ?_
      rotate_left
      · (intro w hSw; (try dsimp only at hSw); go_simp; all_goals with_reducible rfl)
      try simp only [Act.put, sA, sB, sC]
      refine tkH 9 ⟨some 142, _, _, _, _, _⟩ ?_ rfl ?_ (by assumption) ?_
      rotate_left
      · (intro w hSw; (try dsimp only at hSw); go_simp; all_goals with_reducible rfl)
      try simp only [Act.put, sA, sB, sC]
      refine tkH 10 ⟨some 16, _, _, _, _, _⟩ ?_ rfl ?_ (by assumption) ?_
      rotate_left
      · (intro w hSw; (try dsimp only at hSw); go_simp; all_goals with_reducible rfl)
      try simp only [Act.put, sA, sB, sC]
      refine tkH 11 ⟨some 17, _, _, _, _, _⟩ ?_ rfl ?_ (by assumption) ?_
      rotate_left
      · (intro w hSw; (try dsimp only at hSw); go_simp; all_goals with_reducible rfl)
      try simp only [Act.put, sA, sB, sC]
      refine wpAnyH_done (by kernel_rfl) ?_ _
      have hc61 : Below x60.heap.size x60 y60v4 := hT4
      have hB61 : Below w.heap.size w y60v4 := hB60.trans (hc61.mono hB60.size)
      have zu61 := hB61.size
      replace HL := Lib.hid (HL.out.below hc61)
      replace PB := Lib.hid (PB.out.below hc61)
      replace RB := Lib.hid (RB.out.below hc61)
      clear PB_60_0 PB_60_1 PB_60_2 PB_60_3 lPB_60 nPB_60 mPB_60 RB_60_0 RB_60_1 RB_60_2 RB_60_3 RB_60_4 RB_60_5 RB_60_6 RB_60_7 RB_60_8 lRB_60 nRB_60 mRB_60
      clear HS hHeld hT0 hT1 hT2 hT3 hT4 hB60 zu60
      obtain ⟨PB_61_0, PB_61_1, PB_61_2, PB_61_3⟩ := b4 PB.out
      have lPB_61 := PB.out.lt
      have nPB_61 : y60v4.heap.size ≠ w.heap.size := by omega
      have mPB_61 : w.heap.size ≠ y60v4.heap.size := by omega
      obtain ⟨RB_61_0, RB_61_1, RB_61_2, RB_61_3, RB_61_4, RB_61_5, RB_61_6, RB_61_7, RB_61_8⟩ := b9 RB.out
      have lRB_61 := RB.out.lt
      have nRB_61 : y60v4.heap.size ≠ w.heap.size + 1 := by omega
      have mRB_61 : w.heap.size + 1 ≠ y60v4.heap.size := by omega
      clear HG4
      clear HD4
      clear HT4
      clear HC4
      obtain ⟨a0, a1⟩ := sl_nv HL.out kql ha9.out hz9.out
      rw [hzk.out] at a1
      go_wp2
      go_ret
      first | exact ⟨rfl, hB61⟩ | (simp; exact hB61)
theorem exposureReserves_r (nm : ByteArray) (s : Int) (G : List Ga) (D : List Le) (A B : Option Addr) (gn gc dn dc : Nat) (T : List Ox) (r : Ru) (AT : Option Addr) (tn tc : Nat) (q : Int) (w : World) (hz : nm.size ≤ 9223372036854775807) (hgn : Hid (gn = G.length)) (hgl : gn ≤ 9223372036854775807) (hdn : Hid (dn = D.length)) (hdl : dn ≤ 9223372036854775807) (hG : Hid (SlRows gaV 2 w A G)) (hD : Hid (SlRows leV 3 w B D)) (CG : Hid (A = none → gn = 0 ∧ gc = 0)) (CD : Hid (B = none → dn = 0 ∧ dc = 0)) (htn : Hid (tn = T.length)) (htl : tn ≤ 9223372036854775807) (hT : Hid (SlRows oxV 2 w AT T)) (CT : Hid (AT = none → tn = 0 ∧ tc = 0)) :
    Calls Tryz.prog 3 #[.agg #[.string nm, .int .i64 s, .slice A gn gc, .slice B dn dc], .agg #[.slice AT tn tc, .int .i64 r.a, .int .i64 r.b, .int .i64 r.nc, .int .i64 r.dn, .int .i64 r.br, .int .i64 r.em, .int .i64 r.pa, .int .i64 r.sc], .int .i64 q] w fun e w' => e = .returned (.bool true) ∧ Below w.heap.size w w' := by
  obtain ⟨N, E0, hE0⟩ : ∃ N E0, plnP nm s G D = (N, E0) := ⟨_, _, rfl⟩
  obtain ⟨E1, hE1⟩ : ∃ z, ruE T r = z := ⟨_, rfl⟩
  cases hb : briefV (shortB nm.size dn gn) E0 (secT D dn) with
  | false => exact rv_brief nm s G D A B gn gc dn dc T r AT tn tc q _ N E0 w hz hgn hgl hdn hdl hG hD CG CD htn htl hT CT (Lib.hid rfl) (Lib.hid hE0) (Lib.hid hb)
  | true =>
    cases hF : fewB tn with
    | false => exact rv_few nm s G D A B gn gc dn dc T r AT tn tc q _ N E0 w hz hgn hgl hdn hdl hG hD CG CD htn htl hT CT (Lib.hid rfl) (Lib.hid hE0) (Lib.hid hb) (Lib.hid hF)
    | true =>
      have hS1 : shortB nm.size dn gn = true := by
        unfold briefV at hb
        simp only [Bool.and_eq_true] at hb
        exact hb.1
      obtain ⟨gF, vF, sF, hF9⟩ : ∃ (gF : Nat → Nat) (vF sF : Nat → Int), ∀ i : Nat, gF i = ndG s G D (0 + (i : Int)) ∧ vF i = ndV r s G D (0 + (i : Int)) ∧ sF i = 0 + (i : Int) := ⟨fun i => ndG s G D (0 + (i : Int)), fun i => ndV r s G D (0 + (i : Int)), fun i => 0 + (i : Int), fun i => ⟨rfl, rfl, rfl⟩⟩
      obtain ⟨NN, hNN⟩ : ∃ z, ndN D 0 = z := ⟨_, rfl⟩
      by_cases h3 : firE [E0, E1, if 20000 < secT D dn then (8 : Int) else 0] = 0
      · have ha := firE_all h3
        obtain rfl : E0 = 0 := ha _ (by simp)
        obtain rfl : E1 = 0 := ha _ (by simp)
        have hF2 : (if 20000 < secT D dn then (8 : Int) else 0) = 0 := ha _ (by simp)
        have hok := pln_ok hE0
        have hru := ru_ok hE1
        have h20 : secT D dn ≤ 20000 := by by_cases e : 20000 < secT D dn; rw [if_pos e] at hF2; exact absurd hF2 (by decide); omega
        have hS9 : secT D D.length ≤ 20000 := by rw [← hdn.out]; exact h20
        have hg0 := hok.g0
        have hg8 := hok.g8
        have hgG := hgn.out
        have hgL : ∀ i, i < NN → gF i < gn := fun i hi => by
          rw [(hF9 i).1, hgn.out]
          have h := ndN_lt (show i < ndN D 0 by rw [hNN]; exact hi)
          exact (ndG_lt hok h.1 (by rw [Int.zero_add]; exact h.2)).1
        have hv0 : ∀ i, i < NN → 0 ≤ vF i := fun i hi => by
          have h := ndN_lt (show i < ndN D 0 by rw [hNN]; exact hi)
          rw [(hF9 i).2.1]
          exact (need_ge hok hru hS9 h.1 (by omega) (by rw [Int.zero_add]; exact h.2)).1
        have hs0 : ∀ i, i < NN → 0 ≤ sF i := fun i _ => by rw [(hF9 i).2.2]; omega
        have hp0 : ∀ i, i < NN → ∃ j, j < NN ∧ gF j = gF i ∧ 0 < vF j := fun i hi => by
          obtain ⟨j, j1, j2, j3⟩ := need_last hok hru hS9 (show i < ndN D 0 by rw [hNN]; exact hi)
          refine ⟨j, by omega, ?_, ?_⟩
          · rw [(hF9 j).1, (hF9 i).1, Int.zero_add, Int.zero_add]; exact j2
          · rw [(hF9 j).2.1, Int.zero_add]; exact j3
        have hrm := rmI_rng q (show (1 : Int) ≤ (gn : Int) by omega)
        obtain ⟨kq, hkq⟩ : ∃ kq : Nat, rmI q (gn : Int) = (kq : Int) := ⟨(rmI q (gn : Int)).toNat, by omega⟩
        have hl0 : (rvG rvS gF vF sF gn NN).length = gn := rvG_len NN
        exact rv_good nm s G D A B gn gc dn dc T r AT tn tc q _ N kq _ gF vF sF NN _ w hz hgn hgl hdn hdl hG hD CG CD htn htl hT CT (Lib.hid hS1) (Lib.hid rfl) (Lib.hid hE0) (Lib.hid hb) (Lib.hid hF) (Lib.hid hE1) (Lib.hid hF2) (Lib.hid h3) (Lib.hid hF9) (Lib.hid hNN) (Lib.hid rfl) (Lib.hid hok) (Lib.hid hru) (Lib.hid hS9) (Lib.hid rfl) (Lib.hid (rv_eq hgL hv0 hs0 hp0)) (Lib.hid hl0) (by omega) (by omega) (by omega) (Lib.hid hgL) (Lib.hid (fun g hg => rv_char hgL NN (Nat.le_refl _) g hg)) (Lib.hid hkq) (by omega) (Lib.hid rfl)
      · exact rv_err nm s G D A B gn gc dn dc T r AT tn tc q _ N E0 E1 _ _ gF vF sF NN w hz hgn hgl hdn hdl hG hD CG CD htn htl hT CT (Lib.hid hS1) (Lib.hid rfl) (Lib.hid hE0) (Lib.hid hb) (Lib.hid hF) (Lib.hid hE1) (Lib.hid rfl) (Lib.hid rfl) (Lib.hid hF9) (Lib.hid hNN) (Lib.hid rfl) h3 (by simpa using h3) (by simpa using h3)
theorem nilCap {α : Type} {f : α → List Value} {k : Nat} {w : World} {A : Option Addr} {L : List α} {c : Nat} (h : SlRows f k w A L) (hn : A = none → c = 0) : A = none → L.length = 0 ∧ c = 0 := fun e => by
  rcases h with h | ⟨b, o, h, _⟩
  · exact ⟨by rw [h]; rfl, hn e⟩
  · rw [e] at h; cases h
theorem exposureReserves_any (nm : ByteArray) (s : Int) (G : List Ga) (GA : Option Addr) (gc : Nat) (D : List Le) (DA : Option Addr) (dc : Nat) (T : List Ox) (A : Option Addr) (cap : Nat) (ra rb rnc rdn rbr rem rpa rsc : Int) (q : Int) (w : World) (hnm : nm.size ≤ 9223372036854775807) (hGl : G.length ≤ 9223372036854775807) (hGn : GA = none → gc = 0) (hGs : SlRows gaV 2 w GA G) (hDl : D.length ≤ 9223372036854775807) (hDn : DA = none → dc = 0) (hDs : SlRows leV 3 w DA D) (hTl : T.length ≤ 9223372036854775807) (hTn : A = none → cap = 0) (hTs : SlRows oxV 2 w A T) :
    Calls Tryz.prog 3 #[.agg #[.string nm, .int .i64 s, .slice GA G.length gc, .slice DA D.length dc], .agg #[.slice A T.length cap, .int .i64 ra, .int .i64 rb, .int .i64 rnc, .int .i64 rdn, .int .i64 rbr, .int .i64 rem, .int .i64 rpa, .int .i64 rsc], .int .i64 q] w fun e w' => e = .returned (.bool true) ∧ Below w.heap.size w w' := by
  exact exposureReserves_r nm s G D GA DA G.length gc D.length dc T ⟨ra, rb, rnc, rdn, rbr, rem, rpa, rsc⟩ A T.length cap q w hnm (Lib.hid rfl) hGl (Lib.hid rfl) hDl (Lib.hid hGs) (Lib.hid hDs) (Lib.hid (nilCap hGs hGn)) (Lib.hid (nilCap hDs hDn)) (Lib.hid rfl) hTl (Lib.hid hTs) (Lib.hid (nilCap hTs hTn))
end Go.Proofs.YtijdphlejokijaaGreat
