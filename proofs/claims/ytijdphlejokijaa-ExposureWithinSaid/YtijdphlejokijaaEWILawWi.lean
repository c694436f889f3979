import Derived.Test.YtijdphlejokijaaEWIEBks
import Derived.Test.YtijdphlejokijaaEWIEWth
import Derived.Test.YtijdphlejokijaaEWIERfP
import Derived.Test.YtijdphlejokijaaEWIELeg
import Derived.Test.YtijdphlejokijaaEWIEFx
import Derived.Test.YtijdphlejokijaaEWIECons
import Derived.Test.YtijdphlejokijaaEWIECpP
import Derived.Test.YtijdphlejokijaaEWIEAwk
import Derived.Outline
namespace Go.Proofs.Ytijdphlejokijaa
open Go.ChangeShapes Go.WideShapes Go.ChangeAt Go.RowKit
set_option linter.unusedVariables false
set_option linter.unusedSimpArgs false
attribute [local go_sem ↓] Go.wp_at_zero Go.wp_at_succ
theorem cl_good {P : Program} {f : FuncId} {args : Array Value} {w : World} {E : Int} {R Q : Ending → World → Prop} (h : Calls P f args w fun e w' => (¬ E = 0 ∧ R e w') ∨ (E = 0 ∧ Q e w')) (h0 : E = 0) : Calls P f args w Q := h.mono fun e w' h => h.elim (fun h => absurd h0 h.1) (fun h => h.2)
theorem wB (n a b : Int) (r : Bool) (w : World) (h : Hid (inB n a b = r)) : Calls Try.prog 20 #[.int .i64 n, .int .i64 a, .int .i64 b] w fun e w' => e = .returned (.bool r) ∧ Below w.heap.size w w' := (bW_r n a b r w h).mono fun e w' h => ⟨h.1, by rw [← h.2]; exact Below.refl _ _⟩
theorem BlkF.lowerW {u : World} {B C b : Nat} {vs : List Value} (h : BlkF u B b vs) (hC : C ≤ B) : BlkF u C b vs := ⟨Nat.le_trans hC h.ge, h.lt, h.at', h.fz⟩
set_option maxRecDepth 100000 in
set_option maxHeartbeats 8000000 in
theorem wi_short (nm : ByteArray) (s : Int) (G : List Ga) (D : List Le) (A B : Option Addr) (gn gc dn dc : Nat) (T : List Ox) (r : Ru) (AT : Option Addr) (tn tc : Nat)  (w : World) (hz : nm.size ≤ 9223372036854775807) (hgn : Hid (gn = G.length)) (hgl : gn ≤ 9223372036854775807) (hdn : Hid (dn = D.length)) (hdl : dn ≤ 9223372036854775807) (hG : Hid (SlRows gaV 2 w A G)) (hD : Hid (SlRows leV 3 w B D)) (CG : Hid (A = none → gn = 0 ∧ gc = 0)) (CD : Hid (B = none → dn = 0 ∧ dc = 0)) (htn : Hid (tn = T.length)) (htl : tn ≤ 9223372036854775807) (hT : Hid (SlRows oxV 2 w AT T)) (CT : Hid (AT = none → tn = 0 ∧ tc = 0)) (hS : Hid (shortB nm.size dn gn = false)) :
    Calls Try.prog 9 #[.agg #[.string nm, .int .i64 s, .slice A gn gc, .slice B dn dc], .agg #[.slice AT tn tc, .int .i64 r.a, .int .i64 r.b, .int .i64 r.nc, .int .i64 r.dn, .int .i64 r.br, .int .i64 r.em, .int .i64 r.pa, .int .i64 r.sc]] w fun e w' => e = .returned (.bool true) ∧ Below w.heap.size w w' := by
  go_enter Try.func9, Try.ntmps9
  go_wp2_with fail
  refine (awake_any _).mono ?_
  rintro e x1 ⟨rfl, hb1⟩
  have hc1 : Below w.heap.size w x1 := (((Below.refl _ _).alloc (by first | exact Nat.le_refl _ | (simp; done) | (simp; omega)) _).alloc (by first | exact Nat.le_refl _ | (simp; done) | (simp; omega)) _).trans (hb1.mono (by first | exact Nat.le_refl _ | (simp; done) | (simp; omega)))
  have hB1 : Below w.heap.size w x1 := hc1
  have zu1 := hB1.size
  have PB : Hid (BlkF x1 w.heap.size (w.heap.size) [.string nm, .int .i64 s, .slice A gn gc, .slice B dn dc]) := Lib.hid (((BlkF.made (B := w.heap.size) w [.string nm, .int .i64 s, .slice A gn gc, .slice B dn dc] 40 (by first | exact Nat.le_refl _ | (simp; done) | (simp; omega))).below ((Below.refl _ _).alloc (Nat.le_refl _) _)).below hb1)
  have zPB1 := PB.out.lt
  have RB : Hid (BlkF x1 w.heap.size (w.heap.size + 1) [.slice AT tn tc, .int .i64 r.a, .int .i64 r.b, .int .i64 r.nc, .int .i64 r.dn, .int .i64 r.br, .int .i64 r.em, .int .i64 r.pa, .int .i64 r.sc]) := Lib.hid (by have := (BlkF.made (B := w.heap.size) (w.alloc (.cells #[.string nm, .int .i64 s, .slice A gn gc, .slice B dn dc] 40)) [.slice AT tn tc, .int .i64 r.a, .int .i64 r.b, .int .i64 r.nc, .int .i64 r.dn, .int .i64 r.br, .int .i64 r.em, .int .i64 r.pa, .int .i64 r.sc] 26 (by first | exact Nat.le_refl _ | (simp; done) | (simp; omega))).below hb1; simpa using this)
  have zRB1 := RB.out.lt
  clear hb1
  obtain ⟨PB_1_0, PB_1_1, PB_1_2, PB_1_3⟩ := b4 PB.out
  have lPB_1 := PB.out.lt
  have nPB_1 : x1.heap.size ≠ w.heap.size := by omega
  have mPB_1 : w.heap.size ≠ x1.heap.size := by omega
  obtain ⟨RB_1_0, RB_1_1, RB_1_2, RB_1_3, RB_1_4, RB_1_5, RB_1_6, RB_1_7, RB_1_8⟩ := b9 RB.out
  have lRB_1 := RB.out.lt
  have nRB_1 : x1.heap.size ≠ w.heap.size + 1 := by omega
  have mRB_1 : w.heap.size + 1 ≠ x1.heap.size := by omega
  go_wp2_with fail
  refine (Short_is nm s G D A B gn gc dn dc false _ hz hgl hdl hS).mono ?_
  rintro e x2 ⟨rfl, hb2⟩
  have hc2 : Below x1.heap.size x1 x2 := hb2
  have hB2 : Below w.heap.size w x2 := hB1.trans (hc2.mono hB1.size)
  have zu2 := hB2.size
  replace PB := Lib.hid (PB.out.below hc2)
  replace RB := Lib.hid (RB.out.below hc2)
  clear PB_1_0 PB_1_1 PB_1_2 PB_1_3 lPB_1 nPB_1 mPB_1 RB_1_0 RB_1_1 RB_1_2 RB_1_3 RB_1_4 RB_1_5 RB_1_6 RB_1_7 RB_1_8 lRB_1 nRB_1 mRB_1
  clear hb2 hB1 zu1 hc1
  obtain ⟨PB_2_0, PB_2_1, PB_2_2, PB_2_3⟩ := b4 PB.out
  have lPB_2 := PB.out.lt
  have nPB_2 : x2.heap.size ≠ w.heap.size := by omega
  have mPB_2 : w.heap.size ≠ x2.heap.size := by omega
  obtain ⟨RB_2_0, RB_2_1, RB_2_2, RB_2_3, RB_2_4, RB_2_5, RB_2_6, RB_2_7, RB_2_8⟩ := b9 RB.out
  have lRB_2 := RB.out.lt
  have nRB_2 : x2.heap.size ≠ w.heap.size + 1 := by omega
  have mRB_2 : w.heap.size + 1 ≠ x2.heap.size := by omega
  go_wp2
  go_ret
  exact ⟨rfl, hB2⟩
set_option maxRecDepth 100000 in
set_option maxHeartbeats 8000000 in
theorem wi_few (nm : ByteArray) (s : Int) (G : List Ga) (D : List Le) (A B : Option Addr) (gn gc dn dc : Nat) (T : List Ox) (r : Ru) (AT : Option Addr) (tn tc : Nat)  (w : World) (hz : nm.size ≤ 9223372036854775807) (hgn : Hid (gn = G.length)) (hgl : gn ≤ 9223372036854775807) (hdn : Hid (dn = D.length)) (hdl : dn ≤ 9223372036854775807) (hG : Hid (SlRows gaV 2 w A G)) (hD : Hid (SlRows leV 3 w B D)) (CG : Hid (A = none → gn = 0 ∧ gc = 0)) (CD : Hid (B = none → dn = 0 ∧ dc = 0)) (htn : Hid (tn = T.length)) (htl : tn ≤ 9223372036854775807) (hT : Hid (SlRows oxV 2 w AT T)) (CT : Hid (AT = none → tn = 0 ∧ tc = 0)) (hS : Hid (shortB nm.size dn gn = true)) (hF : Hid (fewB tn = false)) :
    Calls Try.prog 9 #[.agg #[.string nm, .int .i64 s, .slice A gn gc, .slice B dn dc], .agg #[.slice AT tn tc, .int .i64 r.a, .int .i64 r.b, .int .i64 r.nc, .int .i64 r.dn, .int .i64 r.br, .int .i64 r.em, .int .i64 r.pa, .int .i64 r.sc]] w fun e w' => e = .returned (.bool true) ∧ Below w.heap.size w w' := by
  go_enter Try.func9, Try.ntmps9
  go_wp2_with fail
  refine (awake_any _).mono ?_
  rintro e x1 ⟨rfl, hb1⟩
  have hc1 : Below w.heap.size w x1 := (((Below.refl _ _).alloc (by first | exact Nat.le_refl _ | (simp; done) | (simp; omega)) _).alloc (by first | exact Nat.le_refl _ | (simp; done) | (simp; omega)) _).trans (hb1.mono (by first | exact Nat.le_refl _ | (simp; done) | (simp; omega)))
  have hB1 : Below w.heap.size w x1 := hc1
  have zu1 := hB1.size
  have PB : Hid (BlkF x1 w.heap.size (w.heap.size) [.string nm, .int .i64 s, .slice A gn gc, .slice B dn dc]) := Lib.hid (((BlkF.made (B := w.heap.size) w [.string nm, .int .i64 s, .slice A gn gc, .slice B dn dc] 40 (by first | exact Nat.le_refl _ | (simp; done) | (simp; omega))).below ((Below.refl _ _).alloc (Nat.le_refl _) _)).below hb1)
  have zPB1 := PB.out.lt
  have RB : Hid (BlkF x1 w.heap.size (w.heap.size + 1) [.slice AT tn tc, .int .i64 r.a, .int .i64 r.b, .int .i64 r.nc, .int .i64 r.dn, .int .i64 r.br, .int .i64 r.em, .int .i64 r.pa, .int .i64 r.sc]) := Lib.hid (by have := (BlkF.made (B := w.heap.size) (w.alloc (.cells #[.string nm, .int .i64 s, .slice A gn gc, .slice B dn dc] 40)) [.slice AT tn tc, .int .i64 r.a, .int .i64 r.b, .int .i64 r.nc, .int .i64 r.dn, .int .i64 r.br, .int .i64 r.em, .int .i64 r.pa, .int .i64 r.sc] 26 (by first | exact Nat.le_refl _ | (simp; done) | (simp; omega))).below hb1; simpa using this)
  have zRB1 := RB.out.lt
  clear hb1
  obtain ⟨PB_1_0, PB_1_1, PB_1_2, PB_1_3⟩ := b4 PB.out
  have lPB_1 := PB.out.lt
  have nPB_1 : x1.heap.size ≠ w.heap.size := by omega
  have mPB_1 : w.heap.size ≠ x1.heap.size := by omega
  obtain ⟨RB_1_0, RB_1_1, RB_1_2, RB_1_3, RB_1_4, RB_1_5, RB_1_6, RB_1_7, RB_1_8⟩ := b9 RB.out
  have lRB_1 := RB.out.lt
  have nRB_1 : x1.heap.size ≠ w.heap.size + 1 := by omega
  have mRB_1 : w.heap.size + 1 ≠ x1.heap.size := by omega
  go_wp2_with fail
  refine (Short_is nm s G D A B gn gc dn dc true _ hz hgl hdl hS).mono ?_
  rintro e x2 ⟨rfl, hb2⟩
  have hc2 : Below x1.heap.size x1 x2 := hb2
  have hB2 : Below w.heap.size w x2 := hB1.trans (hc2.mono hB1.size)
  have zu2 := hB2.size
  replace PB := Lib.hid (PB.out.below hc2)
  replace RB := Lib.hid (RB.out.below hc2)
  clear PB_1_0 PB_1_1 PB_1_2 PB_1_3 lPB_1 nPB_1 mPB_1 RB_1_0 RB_1_1 RB_1_2 RB_1_3 RB_1_4 RB_1_5 RB_1_6 RB_1_7 RB_1_8 lRB_1 nRB_1 mRB_1
  clear hb2 hB1 zu1 hc1
  obtain ⟨PB_2_0, PB_2_1, PB_2_2, PB_2_3⟩ := b4 PB.out
  have lPB_2 := PB.out.lt
  have nPB_2 : x2.heap.size ≠ w.heap.size := by omega
  have mPB_2 : w.heap.size ≠ x2.heap.size := by omega
  obtain ⟨RB_2_0, RB_2_1, RB_2_2, RB_2_3, RB_2_4, RB_2_5, RB_2_6, RB_2_7, RB_2_8⟩ := b9 RB.out
  have lRB_2 := RB.out.lt
  have nRB_2 : x2.heap.size ≠ w.heap.size + 1 := by omega
  have mRB_2 : w.heap.size + 1 ≠ x2.heap.size := by omega
  go_wp2_with fail
  refine (few_is r AT tn tc false _ htl hF).mono ?_
  rintro e x3 ⟨rfl, hb3⟩
  have hc3 : Below x2.heap.size x2 x3 := hb3
  have hB3 : Below w.heap.size w x3 := hB2.trans (hc3.mono hB2.size)
  have zu3 := hB3.size
  replace PB := Lib.hid (PB.out.below hc3)
  replace RB := Lib.hid (RB.out.below hc3)
  clear PB_2_0 PB_2_1 PB_2_2 PB_2_3 lPB_2 nPB_2 mPB_2 RB_2_0 RB_2_1 RB_2_2 RB_2_3 RB_2_4 RB_2_5 RB_2_6 RB_2_7 RB_2_8 lRB_2 nRB_2 mRB_2
  clear hb3 hB2 zu2 hc2
  obtain ⟨PB_3_0, PB_3_1, PB_3_2, PB_3_3⟩ := b4 PB.out
  have lPB_3 := PB.out.lt
  have nPB_3 : x3.heap.size ≠ w.heap.size := by omega
  have mPB_3 : w.heap.size ≠ x3.heap.size := by omega
  obtain ⟨RB_3_0, RB_3_1, RB_3_2, RB_3_3, RB_3_4, RB_3_5, RB_3_6, RB_3_7, RB_3_8⟩ := b9 RB.out
  have lRB_3 := RB.out.lt
  have nRB_3 : x3.heap.size ≠ w.heap.size + 1 := by omega
  have mRB_3 : w.heap.size + 1 ≠ x3.heap.size := by omega
  go_wp2
  go_ret
  exact ⟨rfl, hB3⟩
set_option maxRecDepth 100000 in
set_option maxHeartbeats 8000000 in
theorem wi_err (nm : ByteArray) (s : Int) (G : List Ga) (D : List Le) (A B : Option Addr) (gn gc dn dc : Nat) (T : List Ox) (r : Ru) (AT : Option Addr) (tn tc : Nat) (N : Nat) (E0 E1 E : Int) (w : World) (hz : nm.size ≤ 9223372036854775807) (hgn : Hid (gn = G.length)) (hgl : gn ≤ 9223372036854775807) (hdn : Hid (dn = D.length)) (hdl : dn ≤ 9223372036854775807) (hG : Hid (SlRows gaV 2 w A G)) (hD : Hid (SlRows leV 3 w B D)) (CG : Hid (A = none → gn = 0 ∧ gc = 0)) (CD : Hid (B = none → dn = 0 ∧ dc = 0)) (htn : Hid (tn = T.length)) (htl : tn ≤ 9223372036854775807) (hT : Hid (SlRows oxV 2 w AT T)) (CT : Hid (AT = none → tn = 0 ∧ tc = 0)) (hS : Hid (shortB nm.size dn gn = true)) (hF : Hid (fewB tn = true)) (hE0 : Hid (plnP nm s G D = (N, E0))) (hE1 : Hid (ruE T r = E1)) (hE : Hid (firE [E0, E1] = E)) (h1 : (E != 0) = true) :
    Calls Try.prog 9 #[.agg #[.string nm, .int .i64 s, .slice A gn gc, .slice B dn dc], .agg #[.slice AT tn tc, .int .i64 r.a, .int .i64 r.b, .int .i64 r.nc, .int .i64 r.dn, .int .i64 r.br, .int .i64 r.em, .int .i64 r.pa, .int .i64 r.sc]] w fun e w' => e = .returned (.bool true) ∧ Below w.heap.size w w' := by
  have hsb := shortB_le hS.out
  have hz6 : nm.size ≤ 1000000 := by omega
  have hg6 : gn ≤ 1000000 := by omega
  have hd6 : dn ≤ 1000000 := by omega
  go_enter Try.func9, Try.ntmps9
  go_wp2_with fail
  refine (awake_any _).mono ?_
  rintro e x1 ⟨rfl, hb1⟩
  have hc1 : Below w.heap.size w x1 := (((Below.refl _ _).alloc (by first | exact Nat.le_refl _ | (simp; done) | (simp; omega)) _).alloc (by first | exact Nat.le_refl _ | (simp; done) | (simp; omega)) _).trans (hb1.mono (by first | exact Nat.le_refl _ | (simp; done) | (simp; omega)))
  have hB1 : Below w.heap.size w x1 := hc1
  have zu1 := hB1.size
  have PB : Hid (BlkF x1 w.heap.size (w.heap.size) [.string nm, .int .i64 s, .slice A gn gc, .slice B dn dc]) := Lib.hid (((BlkF.made (B := w.heap.size) w [.string nm, .int .i64 s, .slice A gn gc, .slice B dn dc] 40 (by first | exact Nat.le_refl _ | (simp; done) | (simp; omega))).below ((Below.refl _ _).alloc (Nat.le_refl _) _)).below hb1)
  have zPB1 := PB.out.lt
  have RB : Hid (BlkF x1 w.heap.size (w.heap.size + 1) [.slice AT tn tc, .int .i64 r.a, .int .i64 r.b, .int .i64 r.nc, .int .i64 r.dn, .int .i64 r.br, .int .i64 r.em, .int .i64 r.pa, .int .i64 r.sc]) := Lib.hid (by have := (BlkF.made (B := w.heap.size) (w.alloc (.cells #[.string nm, .int .i64 s, .slice A gn gc, .slice B dn dc] 40)) [.slice AT tn tc, .int .i64 r.a, .int .i64 r.b, .int .i64 r.nc, .int .i64 r.dn, .int .i64 r.br, .int .i64 r.em, .int .i64 r.pa, .int .i64 r.sc] 26 (by first | exact Nat.le_refl _ | (simp; done) | (simp; omega))).below hb1; simpa using this)
  have zRB1 := RB.out.lt
  clear hb1
  obtain ⟨PB_1_0, PB_1_1, PB_1_2, PB_1_3⟩ := b4 PB.out
  have lPB_1 := PB.out.lt
  have nPB_1 : x1.heap.size ≠ w.heap.size := by omega
  have mPB_1 : w.heap.size ≠ x1.heap.size := by omega
  obtain ⟨RB_1_0, RB_1_1, RB_1_2, RB_1_3, RB_1_4, RB_1_5, RB_1_6, RB_1_7, RB_1_8⟩ := b9 RB.out
  have lRB_1 := RB.out.lt
  have nRB_1 : x1.heap.size ≠ w.heap.size + 1 := by omega
  have mRB_1 : w.heap.size + 1 ≠ x1.heap.size := by omega
  go_wp2_with fail
  refine (Short_is nm s G D A B gn gc dn dc true _ hz hgl hdl hS).mono ?_
  rintro e x2 ⟨rfl, hb2⟩
  have hc2 : Below x1.heap.size x1 x2 := hb2
  have hB2 : Below w.heap.size w x2 := hB1.trans (hc2.mono hB1.size)
  have zu2 := hB2.size
  replace PB := Lib.hid (PB.out.below hc2)
  replace RB := Lib.hid (RB.out.below hc2)
  clear PB_1_0 PB_1_1 PB_1_2 PB_1_3 lPB_1 nPB_1 mPB_1 RB_1_0 RB_1_1 RB_1_2 RB_1_3 RB_1_4 RB_1_5 RB_1_6 RB_1_7 RB_1_8 lRB_1 nRB_1 mRB_1
  clear hb2 hB1 zu1 hc1
  obtain ⟨PB_2_0, PB_2_1, PB_2_2, PB_2_3⟩ := b4 PB.out
  have lPB_2 := PB.out.lt
  have nPB_2 : x2.heap.size ≠ w.heap.size := by omega
  have mPB_2 : w.heap.size ≠ x2.heap.size := by omega
  obtain ⟨RB_2_0, RB_2_1, RB_2_2, RB_2_3, RB_2_4, RB_2_5, RB_2_6, RB_2_7, RB_2_8⟩ := b9 RB.out
  have lRB_2 := RB.out.lt
  have nRB_2 : x2.heap.size ≠ w.heap.size + 1 := by omega
  have mRB_2 : w.heap.size + 1 ≠ x2.heap.size := by omega
  go_wp2_with fail
  refine (few_is r AT tn tc true _ htl hF).mono ?_
  rintro e x3 ⟨rfl, hb3⟩
  have hc3 : Below x2.heap.size x2 x3 := hb3
  have hB3 : Below w.heap.size w x3 := hB2.trans (hc3.mono hB2.size)
  have zu3 := hB3.size
  replace PB := Lib.hid (PB.out.below hc3)
  replace RB := Lib.hid (RB.out.below hc3)
  clear PB_2_0 PB_2_1 PB_2_2 PB_2_3 lPB_2 nPB_2 mPB_2 RB_2_0 RB_2_1 RB_2_2 RB_2_3 RB_2_4 RB_2_5 RB_2_6 RB_2_7 RB_2_8 lRB_2 nRB_2 mRB_2
  clear hb3 hB2 zu2 hc2
  obtain ⟨PB_3_0, PB_3_1, PB_3_2, PB_3_3⟩ := b4 PB.out
  have lPB_3 := PB.out.lt
  have nPB_3 : x3.heap.size ≠ w.heap.size := by omega
  have mPB_3 : w.heap.size ≠ x3.heap.size := by omega
  obtain ⟨RB_3_0, RB_3_1, RB_3_2, RB_3_3, RB_3_4, RB_3_5, RB_3_6, RB_3_7, RB_3_8⟩ := b9 RB.out
  have lRB_3 := RB.out.lt
  have nRB_3 : x3.heap.size ≠ w.heap.size + 1 := by omega
  have mRB_3 : w.heap.size + 1 ≠ x3.heap.size := by omega
  go_wp2_with fail
  refine (refBoth_any nm s G D A B gn gc dn dc T r AT tn tc N E0 E1 E _ hz6 hgn hgl hdn hdl (Lib.hid (hG.out.below (by (repeat (first | (with_reducible refine Below.drew ?_) | (with_reducible refine below_drewN ?_ _) | (with_reducible refine Below.alloc ?_ (by first | omega | (simp; done) | (simp; omega) | (simp at *; omega)) _) | (with_reducible refine Below.setCell ?_ (by first | omega | (simp; done) | (simp; omega) | (simp at *; omega)) _) | (with_reducible exact Below.refl _ _) | (with_reducible assumption) | (with_reducible refine Below.trans ?_ (Below.mono (by assumption) (by first | omega | (simp; done) | (simp; omega) | (simp at *; omega))))))))) (Lib.hid (hD.out.below (by (repeat (first | (with_reducible refine Below.drew ?_) | (with_reducible refine below_drewN ?_ _) | (with_reducible refine Below.alloc ?_ (by first | omega | (simp; done) | (simp; omega) | (simp at *; omega)) _) | (with_reducible refine Below.setCell ?_ (by first | omega | (simp; done) | (simp; omega) | (simp at *; omega)) _) | (with_reducible exact Below.refl _ _) | (with_reducible assumption) | (with_reducible refine Below.trans ?_ (Below.mono (by assumption) (by first | omega | (simp; done) | (simp; omega) | (simp at *; omega))))))))) hE0 htn htl (Lib.hid (hT.out.below (by (repeat (first | (with_reducible refine Below.drew ?_) | (with_reducible refine below_drewN ?_ _) | (with_reducible refine Below.alloc ?_ (by first | omega | (simp; done) | (simp; omega) | (simp at *; omega)) _) | (with_reducible refine Below.setCell ?_ (by first | omega | (simp; done) | (simp; omega) | (simp at *; omega)) _) | (with_reducible exact Below.refl _ _) | (with_reducible assumption) | (with_reducible refine Below.trans ?_ (Below.mono (by assumption) (by first | omega | (simp; done) | (simp; omega) | (simp at *; omega))))))))) hE1 hE).mono ?_
  rintro e x4 ⟨rfl, hb4⟩
  have hc4 : Below x3.heap.size x3 x4 := hb4
  have hB4 : Below w.heap.size w x4 := hB3.trans (hc4.mono hB3.size)
  have zu4 := hB4.size
  replace PB := Lib.hid (PB.out.below hc4)
  replace RB := Lib.hid (RB.out.below hc4)
  clear PB_3_0 PB_3_1 PB_3_2 PB_3_3 lPB_3 nPB_3 mPB_3 RB_3_0 RB_3_1 RB_3_2 RB_3_3 RB_3_4 RB_3_5 RB_3_6 RB_3_7 RB_3_8 lRB_3 nRB_3 mRB_3
  clear hb4 hB3 zu3 hc3
  obtain ⟨PB_4_0, PB_4_1, PB_4_2, PB_4_3⟩ := b4 PB.out
  have lPB_4 := PB.out.lt
  have nPB_4 : x4.heap.size ≠ w.heap.size := by omega
  have mPB_4 : w.heap.size ≠ x4.heap.size := by omega
  obtain ⟨RB_4_0, RB_4_1, RB_4_2, RB_4_3, RB_4_4, RB_4_5, RB_4_6, RB_4_7, RB_4_8⟩ := b9 RB.out
  have lRB_4 := RB.out.lt
  have nRB_4 : x4.heap.size ≠ w.heap.size + 1 := by omega
  have mRB_4 : w.heap.size + 1 ≠ x4.heap.size := by omega
  go_wp2
  go_ret
  exact ⟨rfl, hB4⟩
set_option maxRecDepth 100000 in
set_option maxHeartbeats 8000000 in
theorem wi_good (nm : ByteArray) (s : Int) (G : List Ga) (D : List Le) (A B : Option Addr) (gn gc dn dc : Nat) (T : List Ox) (r : Ru) (AT : Option Addr) (tn tc : Nat) (N n9 : Nat) (L : List (Int × Int)) (w : World) (hz : nm.size ≤ 9223372036854775807) (hgn : Hid (gn = G.length)) (hgl : gn ≤ 9223372036854775807) (hdn : Hid (dn = D.length)) (hdl : dn ≤ 9223372036854775807) (hG : Hid (SlRows gaV 2 w A G)) (hD : Hid (SlRows leV 3 w B D)) (CG : Hid (A = none → gn = 0 ∧ gc = 0)) (CD : Hid (B = none → dn = 0 ∧ dc = 0)) (htn : Hid (tn = T.length)) (htl : tn ≤ 9223372036854775807) (hT : Hid (SlRows oxV 2 w AT T)) (CT : Hid (AT = none → tn = 0 ∧ tc = 0)) (hS : Hid (shortB nm.size dn gn = true)) (hF : Hid (fewB tn = true)) (hE0 : Hid (plnP nm s G D = (N, 0))) (hE1 : Hid (ruE T r = 0)) (hE : Hid (firE [0, 0] = 0)) (hL : Hid ((bkL r (legC s G D) (List.range dn)) = L)) (hn9 : Hid (L.length = n9)) :
    Calls Try.prog 9 #[.agg #[.string nm, .int .i64 s, .slice A gn gc, .slice B dn dc], .agg #[.slice AT tn tc, .int .i64 r.a, .int .i64 r.b, .int .i64 r.nc, .int .i64 r.dn, .int .i64 r.br, .int .i64 r.em, .int .i64 r.pa, .int .i64 r.sc]] w fun e w' => e = .returned (.bool true) ∧ Below w.heap.size w w' := by
  have hsb := shortB_le hS.out
  have hz6 : nm.size ≤ 1000000 := by omega
  have hg6 : gn ≤ 1000000 := by omega
  have hd6 : dn ≤ 1000000 := by omega
  have ht22 : tn ≤ 22 := fewB_le hF.out
  have ht6 : tn ≤ 1000000 := by omega
  have hok := Lib.hid (pln_ok hE0.out)
  have hru := Lib.hid (ru_ok hE1.out)
  have d60 : dn ≤ 60 := by have := hok.out.d6; have := hdn.out; omega
  have hn4 : n9 ≤ 4 * dn := by
    have h := bkL_len r (legC s G D) _ (List.range dn) rfl
    rw [hL.out, hn9.out, List.length_range] at h
    omega
  have hw4 : IntKind.i64.wrap (4 * (dn : Int)) = 4 * (dn : Int) := IntWalk.i64_in _ (by omega)
  have hg4 : ¬ 4 * (dn : Int) < (n9 : Int) := by omega
  go_enter Try.func9, Try.ntmps9
  go_wp2_with fail
  refine (awake_any _).mono ?_
  rintro e x1 ⟨rfl, hb1⟩
  have hc1 : Below w.heap.size w x1 := (((Below.refl _ _).alloc (by first | exact Nat.le_refl _ | (simp; done) | (simp; omega)) _).alloc (by first | exact Nat.le_refl _ | (simp; done) | (simp; omega)) _).trans (hb1.mono (by first | exact Nat.le_refl _ | (simp; done) | (simp; omega)))
  have hB1 : Below w.heap.size w x1 := hc1
  have zu1 := hB1.size
  have PB : Hid (BlkF x1 w.heap.size (w.heap.size) [.string nm, .int .i64 s, .slice A gn gc, .slice B dn dc]) := Lib.hid (((BlkF.made (B := w.heap.size) w [.string nm, .int .i64 s, .slice A gn gc, .slice B dn dc] 40 (by first | exact Nat.le_refl _ | (simp; done) | (simp; omega))).below ((Below.refl _ _).alloc (Nat.le_refl _) _)).below hb1)
  have zPB1 := PB.out.lt
  have RB : Hid (BlkF x1 w.heap.size (w.heap.size + 1) [.slice AT tn tc, .int .i64 r.a, .int .i64 r.b, .int .i64 r.nc, .int .i64 r.dn, .int .i64 r.br, .int .i64 r.em, .int .i64 r.pa, .int .i64 r.sc]) := Lib.hid (by have := (BlkF.made (B := w.heap.size) (w.alloc (.cells #[.string nm, .int .i64 s, .slice A gn gc, .slice B dn dc] 40)) [.slice AT tn tc, .int .i64 r.a, .int .i64 r.b, .int .i64 r.nc, .int .i64 r.dn, .int .i64 r.br, .int .i64 r.em, .int .i64 r.pa, .int .i64 r.sc] 26 (by first | exact Nat.le_refl _ | (simp; done) | (simp; omega))).below hb1; simpa using this)
  have zRB1 := RB.out.lt
  clear hb1
  obtain ⟨PB_1_0, PB_1_1, PB_1_2, PB_1_3⟩ := b4 PB.out
  have lPB_1 := PB.out.lt
  have nPB_1 : x1.heap.size ≠ w.heap.size := by omega
  have mPB_1 : w.heap.size ≠ x1.heap.size := by omega
  obtain ⟨RB_1_0, RB_1_1, RB_1_2, RB_1_3, RB_1_4, RB_1_5, RB_1_6, RB_1_7, RB_1_8⟩ := b9 RB.out
  have lRB_1 := RB.out.lt
  have nRB_1 : x1.heap.size ≠ w.heap.size + 1 := by omega
  have mRB_1 : w.heap.size + 1 ≠ x1.heap.size := by omega
  go_wp2_with fail
  refine (Short_is nm s G D A B gn gc dn dc true _ hz hgl hdl hS).mono ?_
  rintro e x2 ⟨rfl, hb2⟩
  have hc2 : Below x1.heap.size x1 x2 := hb2
  have hB2 : Below w.heap.size w x2 := hB1.trans (hc2.mono hB1.size)
  have zu2 := hB2.size
  replace PB := Lib.hid (PB.out.below hc2)
  replace RB := Lib.hid (RB.out.below hc2)
  clear PB_1_0 PB_1_1 PB_1_2 PB_1_3 lPB_1 nPB_1 mPB_1 RB_1_0 RB_1_1 RB_1_2 RB_1_3 RB_1_4 RB_1_5 RB_1_6 RB_1_7 RB_1_8 lRB_1 nRB_1 mRB_1
  clear hb2 hB1 zu1 hc1
  obtain ⟨PB_2_0, PB_2_1, PB_2_2, PB_2_3⟩ := b4 PB.out
  have lPB_2 := PB.out.lt
  have nPB_2 : x2.heap.size ≠ w.heap.size := by omega
  have mPB_2 : w.heap.size ≠ x2.heap.size := by omega
  obtain ⟨RB_2_0, RB_2_1, RB_2_2, RB_2_3, RB_2_4, RB_2_5, RB_2_6, RB_2_7, RB_2_8⟩ := b9 RB.out
  have lRB_2 := RB.out.lt
  have nRB_2 : x2.heap.size ≠ w.heap.size + 1 := by omega
  have mRB_2 : w.heap.size + 1 ≠ x2.heap.size := by omega
  go_wp2_with fail
  refine (few_is r AT tn tc true _ htl hF).mono ?_
  rintro e x3 ⟨rfl, hb3⟩
  have hc3 : Below x2.heap.size x2 x3 := hb3
  have hB3 : Below w.heap.size w x3 := hB2.trans (hc3.mono hB2.size)
  have zu3 := hB3.size
  replace PB := Lib.hid (PB.out.below hc3)
  replace RB := Lib.hid (RB.out.below hc3)
  clear PB_2_0 PB_2_1 PB_2_2 PB_2_3 lPB_2 nPB_2 mPB_2 RB_2_0 RB_2_1 RB_2_2 RB_2_3 RB_2_4 RB_2_5 RB_2_6 RB_2_7 RB_2_8 lRB_2 nRB_2 mRB_2
  clear hb3 hB2 zu2 hc2
  obtain ⟨PB_3_0, PB_3_1, PB_3_2, PB_3_3⟩ := b4 PB.out
  have lPB_3 := PB.out.lt
  have nPB_3 : x3.heap.size ≠ w.heap.size := by omega
  have mPB_3 : w.heap.size ≠ x3.heap.size := by omega
  obtain ⟨RB_3_0, RB_3_1, RB_3_2, RB_3_3, RB_3_4, RB_3_5, RB_3_6, RB_3_7, RB_3_8⟩ := b9 RB.out
  have lRB_3 := RB.out.lt
  have nRB_3 : x3.heap.size ≠ w.heap.size + 1 := by omega
  have mRB_3 : w.heap.size + 1 ≠ x3.heap.size := by omega
  go_wp2_with fail
  refine (refBoth_any nm s G D A B gn gc dn dc T r AT tn tc N 0 0 0 _ hz6 hgn hgl hdn hdl (Lib.hid (hG.out.below (by (repeat (first | (with_reducible refine Below.drew ?_) | (with_reducible refine below_drewN ?_ _) | (with_reducible refine Below.alloc ?_ (by first | omega | (simp; done) | (simp; omega) | (simp at *; omega)) _) | (with_reducible refine Below.setCell ?_ (by first | omega | (simp; done) | (simp; omega) | (simp at *; omega)) _) | (with_reducible exact Below.refl _ _) | (with_reducible assumption) | (with_reducible refine Below.trans ?_ (Below.mono (by assumption) (by first | omega | (simp; done) | (simp; omega) | (simp at *; omega))))))))) (Lib.hid (hD.out.below (by (repeat (first | (with_reducible refine Below.drew ?_) | (with_reducible refine below_drewN ?_ _) | (with_reducible refine Below.alloc ?_ (by first | omega | (simp; done) | (simp; omega) | (simp at *; omega)) _) | (with_reducible refine Below.setCell ?_ (by first | omega | (simp; done) | (simp; omega) | (simp at *; omega)) _) | (with_reducible exact Below.refl _ _) | (with_reducible assumption) | (with_reducible refine Below.trans ?_ (Below.mono (by assumption) (by first | omega | (simp; done) | (simp; omega) | (simp at *; omega))))))))) hE0 htn htl (Lib.hid (hT.out.below (by (repeat (first | (with_reducible refine Below.drew ?_) | (with_reducible refine below_drewN ?_ _) | (with_reducible refine Below.alloc ?_ (by first | omega | (simp; done) | (simp; omega) | (simp at *; omega)) _) | (with_reducible refine Below.setCell ?_ (by first | omega | (simp; done) | (simp; omega) | (simp at *; omega)) _) | (with_reducible exact Below.refl _ _) | (with_reducible assumption) | (with_reducible refine Below.trans ?_ (Below.mono (by assumption) (by first | omega | (simp; done) | (simp; omega) | (simp at *; omega))))))))) hE1 hE).mono ?_
  rintro e x4 ⟨rfl, hb4⟩
  have hc4 : Below x3.heap.size x3 x4 := hb4
  have hB4 : Below w.heap.size w x4 := hB3.trans (hc4.mono hB3.size)
  have zu4 := hB4.size
  replace PB := Lib.hid (PB.out.below hc4)
  replace RB := Lib.hid (RB.out.below hc4)
  clear PB_3_0 PB_3_1 PB_3_2 PB_3_3 lPB_3 nPB_3 mPB_3 RB_3_0 RB_3_1 RB_3_2 RB_3_3 RB_3_4 RB_3_5 RB_3_6 RB_3_7 RB_3_8 lRB_3 nRB_3 mRB_3
  clear hb4 hB3 zu3 hc3
  obtain ⟨PB_4_0, PB_4_1, PB_4_2, PB_4_3⟩ := b4 PB.out
  have lPB_4 := PB.out.lt
  have nPB_4 : x4.heap.size ≠ w.heap.size := by omega
  have mPB_4 : w.heap.size ≠ x4.heap.size := by omega
  obtain ⟨RB_4_0, RB_4_1, RB_4_2, RB_4_3, RB_4_4, RB_4_5, RB_4_6, RB_4_7, RB_4_8⟩ := b9 RB.out
  have lRB_4 := RB.out.lt
  have nRB_4 : x4.heap.size ≠ w.heap.size + 1 := by omega
  have mRB_4 : w.heap.size + 1 ≠ x4.heap.size := by omega
  go_upto_region 5 with (fail)
  have HS : Hid (∀ y, Below x4.heap.size x4 y → y.cell? ⟨w.heap.size, 0, none⟩ = some (.string nm) ∧ y.cell? ⟨w.heap.size, 1, none⟩ = some (.int .i64 s) ∧ y.cell? ⟨w.heap.size, 2, none⟩ = some (.slice A gn gc) ∧ y.cell? ⟨w.heap.size, 3, none⟩ = some (.slice B dn dc) ∧ y.cell? ⟨w.heap.size + 1, 0, none⟩ = some (.slice AT tn tc) ∧ y.cell? ⟨w.heap.size + 1, 1, none⟩ = some (.int .i64 r.a) ∧ y.cell? ⟨w.heap.size + 1, 2, none⟩ = some (.int .i64 r.b) ∧ y.cell? ⟨w.heap.size + 1, 3, none⟩ = some (.int .i64 r.nc) ∧ y.cell? ⟨w.heap.size + 1, 4, none⟩ = some (.int .i64 r.dn) ∧ y.cell? ⟨w.heap.size + 1, 5, none⟩ = some (.int .i64 r.br) ∧ y.cell? ⟨w.heap.size + 1, 6, none⟩ = some (.int .i64 r.em) ∧ y.cell? ⟨w.heap.size + 1, 7, none⟩ = some (.int .i64 r.pa) ∧ y.cell? ⟨w.heap.size + 1, 8, none⟩ = some (.int .i64 r.sc)) := Lib.hid fun y hy => ⟨(hy.cell (p := ⟨w.heap.size, 0, none⟩) lPB_4).trans PB_4_0, (hy.cell (p := ⟨w.heap.size, 1, none⟩) lPB_4).trans PB_4_1, (hy.cell (p := ⟨w.heap.size, 2, none⟩) lPB_4).trans PB_4_2, (hy.cell (p := ⟨w.heap.size, 3, none⟩) lPB_4).trans PB_4_3, (hy.cell (p := ⟨w.heap.size + 1, 0, none⟩) lRB_4).trans RB_4_0, (hy.cell (p := ⟨w.heap.size + 1, 1, none⟩) lRB_4).trans RB_4_1, (hy.cell (p := ⟨w.heap.size + 1, 2, none⟩) lRB_4).trans RB_4_2, (hy.cell (p := ⟨w.heap.size + 1, 3, none⟩) lRB_4).trans RB_4_3, (hy.cell (p := ⟨w.heap.size + 1, 4, none⟩) lRB_4).trans RB_4_4, (hy.cell (p := ⟨w.heap.size + 1, 5, none⟩) lRB_4).trans RB_4_5, (hy.cell (p := ⟨w.heap.size + 1, 6, none⟩) lRB_4).trans RB_4_6, (hy.cell (p := ⟨w.heap.size + 1, 7, none⟩) lRB_4).trans RB_4_7, (hy.cell (p := ⟨w.heap.size + 1, 8, none⟩) lRB_4).trans RB_4_8⟩
  refine wp_region_held_drew (S := (fun w' => w'.cell? ⟨w.heap.size, 0, none⟩ = some (.string nm) ∧ w'.cell? ⟨w.heap.size, 1, none⟩ = some (.int .i64 s) ∧ w'.cell? ⟨w.heap.size, 2, none⟩ = some (.slice A gn gc) ∧ w'.cell? ⟨w.heap.size, 3, none⟩ = some (.slice B dn dc) ∧ w'.cell? ⟨w.heap.size + 1, 0, none⟩ = some (.slice AT tn tc) ∧ w'.cell? ⟨w.heap.size + 1, 1, none⟩ = some (.int .i64 r.a) ∧ w'.cell? ⟨w.heap.size + 1, 2, none⟩ = some (.int .i64 r.b) ∧ w'.cell? ⟨w.heap.size + 1, 3, none⟩ = some (.int .i64 r.nc) ∧ w'.cell? ⟨w.heap.size + 1, 4, none⟩ = some (.int .i64 r.dn) ∧ w'.cell? ⟨w.heap.size + 1, 5, none⟩ = some (.int .i64 r.br) ∧ w'.cell? ⟨w.heap.size + 1, 6, none⟩ = some (.int .i64 r.em) ∧ w'.cell? ⟨w.heap.size + 1, 7, none⟩ = some (.int .i64 r.pa) ∧ w'.cell? ⟨w.heap.size + 1, 8, none⟩ = some (.int .i64 r.sc))) (by kernel_rfl) (HS.out _ (Below.refl _ _).drew) (fun hHeld => ?_)
  have hT0 : Below x4.heap.size x4 x4.drew := (Below.refl _ _).drew
  generalize hdr : x4.drew = y4v0 at *
  clear hdr
  refine tkH 0 ⟨some 31, _, _, _, _, _⟩ ?_ rfl ?_ (by assumption) ?_
  rotate_left
  · (intro w hSw; (try dsimp only at hSw); go_simp; all_goals with_reducible rfl)
  try simp only [Act.put, sA, sB, sC]
  refine tkH 2 ⟨some 33, _, _, _, _, _⟩ ?_ rfl ?_ (by assumption) ?_
  rotate_left
  · (intro w hSw; (try dsimp only at hSw); go_simp; all_goals with_reducible rfl)
  try simp only [Act.put, sA, sB, sC]
  refine wpAnyH_ready (rs := [1]) (by kernel_rfl) (by simp) ?_
  refine AllReadyH.cons rfl (fun K hK => ?_) (AllReadyH.nil)
  go_simp
  refine (copyP_is nm s G D A B gn gc dn dc _ hgn hdn hg6 hd6 (Lib.hid (hG.out.below (hB4.trans (hT0.mono hB4.size)))) (Lib.hid (hD.out.below (hB4.trans (hT0.mono hB4.size)))) CG CD).mono ?_
  rintro e y4v1 ⟨A1, ca1, B1, cb1, rfl, hsg, hsd, hna, hnb, hby4v0⟩
  have hT1 : Below x4.heap.size x4 y4v1 := hT0.trans (hby4v0.mono hT0.size)
  have HG1 := Lib.hid hsg
  have HD1 := Lib.hid hsd
  clear hsg hsd hna hnb
  clear hby4v0
  go_wp2_with fail
  refine hK.out _ _ (HS.out _ hT1) (fun hHeld => ?_)
  clear hK K
  try simp only [Act.put, sA, sB, sC]
  refine wpAnyH_ready (rs := [3]) (by kernel_rfl) (by simp) ?_
  refine AllReadyH.cons rfl (fun K hK => ?_) (AllReadyH.nil)
  go_simp
  refine (copyR_is T r AT tn tc _ htn ht6 (Lib.hid (hT.out.below (hB4.trans (hT1.mono hB4.size)))) CT).mono ?_
  rintro e y4v2 ⟨AT1, ct1, rfl, hst, hby4v1⟩
  have hT2 : Below x4.heap.size x4 y4v2 := hT1.trans (hby4v1.mono hT1.size)
  replace HG1 := Lib.hid (HG1.out.below hby4v1)
  replace HD1 := Lib.hid (HD1.out.below hby4v1)
  have HT1 := Lib.hid hst
  clear hst
  clear hby4v1
  go_wp2_with fail
  refine hK.out _ _ (HS.out _ hT2) (fun hHeld => ?_)
  clear hK K
  try simp only [Act.put, sA, sB, sC]
  refine wpAnyH_ready (rs := [4]) (by kernel_rfl) (by simp) ?_
  refine AllReadyH.cons rfl (fun K hK => ?_) (AllReadyH.nil)
  go_simp
  refine (cl_good (Breaks_any nm s G D A1 B1 gn ca1 dn cb1 N 0 T r AT1 tn ct1 0 0 _ hz hgn hgl hdn hdl HG1 HD1 hE0 htn htl HT1 hE1 hE) rfl).mono ?_
  rintro e y4v3 ⟨C9, c9, rfl, hsC, hby4v2⟩
  have hT3 : Below x4.heap.size x4 y4v3 := hT2.trans (hby4v2.mono hT2.size)
  replace HG1 := Lib.hid (HG1.out.below hby4v2)
  replace HD1 := Lib.hid (HD1.out.below hby4v2)
  replace HT1 := Lib.hid (HT1.out.below hby4v2)
  rw [hL.out] at hsC
  rw [hL.out, hn9.out]
  have HC := Lib.hid hsC
  clear hsC
  clear hby4v2
  go_wp2_with fail
  refine hK.out _ _ (HS.out _ hT3) (fun hHeld => ?_)
  clear hK K
  try simp only [Act.put, sA, sB, sC]
  refine tkH 5 ⟨some 30, _, _, _, _, _⟩ ?_ rfl ?_ (by assumption) ?_
  rotate_left
  · (intro w hSw; (try dsimp only at hSw); go_simp; all_goals with_reducible rfl)
  try simp only [Act.put, sA, sB, sC]
  refine tkH 6 ⟨some 36, _, _, _, _, _⟩ ?_ rfl ?_ (by assumption) ?_
  rotate_left
  · (intro w hSw; (try dsimp only at hSw); go_simp; all_goals with_reducible rfl)
  try simp only [Act.put, sA, sB, sC]
  refine tkH 7 ⟨some 37, _, _, _, _, _⟩ ?_ rfl ?_ (by assumption) ?_
  rotate_left
  · (intro w hSw; (try dsimp only at hSw); go_simp; all_goals with_reducible rfl)
  try simp only [Act.put, sA, sB, sC]
  refine tkH 8 ⟨some 5, _, _, _, _, _⟩ ?_ rfl ?_ (by assumption) ?_
  rotate_left
  · (intro w hSw; (try dsimp only at hSw); go_simp; all_goals with_reducible rfl)
  try simp only [Act.put, sA, sB, sC]
  refine tkH 9 ⟨some 6, _, _, _, _, _⟩ ?_ rfl ?_ (by assumption) ?_
  rotate_left
  · (intro w hSw; (try dsimp only at hSw); go_simp; all_goals with_reducible rfl)
  try simp only [Act.put, sA, sB, sC]
  refine wpAnyH_done (by kernel_rfl) ?_ _
  have hc5 : Below x4.heap.size x4 y4v3 := hT3
  have hB5 : Below w.heap.size w y4v3 := hB4.trans (hc5.mono hB4.size)
  have zu5 := hB5.size
  replace PB := Lib.hid (PB.out.below hc5)
  replace RB := Lib.hid (RB.out.below hc5)
  clear PB_4_0 PB_4_1 PB_4_2 PB_4_3 lPB_4 nPB_4 mPB_4 RB_4_0 RB_4_1 RB_4_2 RB_4_3 RB_4_4 RB_4_5 RB_4_6 RB_4_7 RB_4_8 lRB_4 nRB_4 mRB_4
  clear HS hHeld hT0 hT1 hT2 hT3 hB4 zu4 hc4
  obtain ⟨PB_5_0, PB_5_1, PB_5_2, PB_5_3⟩ := b4 PB.out
  have lPB_5 := PB.out.lt
  have nPB_5 : y4v3.heap.size ≠ w.heap.size := by omega
  have mPB_5 : w.heap.size ≠ y4v3.heap.size := by omega
  obtain ⟨RB_5_0, RB_5_1, RB_5_2, RB_5_3, RB_5_4, RB_5_5, RB_5_6, RB_5_7, RB_5_8⟩ := b9 RB.out
  have lRB_5 := RB.out.lt
  have nRB_5 : y4v3.heap.size ≠ w.heap.size + 1 := by omega
  have mRB_5 : w.heap.size + 1 ≠ y4v3.heap.size := by omega
  clear HG1
  clear HD1
  clear HT1
  have HB0 := Lib.hid hB5
  have P0 := PB
  have R0 := RB
  have C0 := HC
  clear PB RB HC hB5 zu5 hc5 PB_5_0 PB_5_1 PB_5_2 PB_5_3 lPB_5 nPB_5 mPB_5 RB_5_0 RB_5_1 RB_5_2 RB_5_3 RB_5_4 RB_5_5 RB_5_6 RB_5_7 RB_5_8 lRB_5 nRB_5 mRB_5
  obtain ⟨c0, c1, c2, c3⟩ := b4 P0.out
  go_wp2_with fail
  go_loopw [7] (fun i wr => ∃ k : Nat, k ≤ dn ∧ i = .int .i64 k ∧ Hid (BlkF wr w.heap.size w.heap.size [.string nm, .int .i64 s, .slice A gn gc, .slice B dn dc]) ∧ Hid (BlkF wr w.heap.size (w.heap.size + 1) [.slice AT tn tc, .int .i64 r.a, .int .i64 r.b, .int .i64 r.nc, .int .i64 r.dn, .int .i64 r.br, .int .i64 r.em, .int .i64 r.pa, .int .i64 r.sc]) ∧ Hid (SlRows p2V 2 wr C9 L) ∧ Hid (Below w.heap.size w wr)) (fun i _ => dn - (intOf i).toNat)
  case atStart => exact ⟨0, by omega, rfl, P0, R0, C0, HB0⟩
  case round =>
    clear P0 R0 C0 HB0 c0 c1 c2 c3
    obtain ⟨k, hk, rfl, PB, RB, HC, HBw⟩ := hrel
    have hB := HBw.out
    have zb := hB.size
    obtain ⟨c0, c1, c2, c3⟩ := b4 PB.out
    by_cases hkn : k < dn
    · have kn : (k : Int) < (dn : Int) := by omega
      obtain ⟨br, hbr⟩ : ∃ z, Hid (L.any (fun x => x.1 == (k : Int)) = z) := ⟨_, Lib.hid rfl⟩
      go_wp2_with fail
      go_loopw [8, 9] (fun v i wx => ∃ j : Nat, j ≤ n9 ∧ i = .int .i64 j ∧ v = .bool ((L.take j).any (fun x => x.1 == (k : Int))) ∧ wx = wr) (fun _ i _ => n9 - (intOf i).toNat)
      case atStart => exact ⟨0, by omega, rfl, rfl, rfl⟩
      case round =>
        obtain ⟨j, hj, rfl, rfl, hwx⟩ := hrel
        subst hwx
        obtain ⟨bj, hbj⟩ : ∃ z, Hid ((L.take j).any (fun x => x.1 == (k : Int)) = z) := ⟨_, Lib.hid rfl⟩
        rw [hbj.out]
        by_cases hjn : j < n9
        · have kj : (j : Int) < (n9 : Int) := by omega
          have k0 : ¬ (j : Int) < 0 := by omega
          have kL : j < L.length := by have := hn9.out; omega
          have hst : Hid ((L.take (j + 1)).any (fun x => x.1 == (k : Int)) = (bj || L[j].1 == (k : Int))) := Lib.hid (by rw [List.take_add_one, List.getElem?_eq_getElem kL, List.any_append, hbj.out]; simp)
          have hwj : IntKind.i64.wrap ((j : Int) + 1) = (j : Int) + 1 := IntWalk.i64_in _ (by omega)
          cases bj with
          | true =>
            have hv : Hid ((L.take (j + 1)).any (fun x => x.1 == (k : Int)) = true) := Lib.hid (by rw [hst.out]; rfl)
            clear hst
            go_wp2
            go_roundw
            case rel => exact ⟨j + 1, by omega, by go_num, by rw [hv.out], by first | rfl | trivial⟩
            case measure => simp [intOf]; omega
          | false =>
            obtain ⟨ab, ao, rfl, la, ra⟩ := HC.out.at' kL
            obtain ⟨p9, hp9⟩ : ∃ z, Hid (L[j].1 = z) := ⟨_, Lib.hid rfl⟩
            have a0 : wr.cell? ⟨ab, ao + j * 2, none⟩ = some (.int .i64 p9) := (ra j kL 0 (by omega)).trans (by rw [← hp9.out]; rfl)
            clear ra
            by_cases hpk : p9 = (k : Int)
            · have hv : Hid ((L.take (j + 1)).any (fun x => x.1 == (k : Int)) = true) := Lib.hid (by rw [hst.out, hp9.out, hpk]; simp)
              clear hst
              go_wp2
              go_roundw
              case rel => exact ⟨j + 1, by omega, by go_num, by rw [hv.out], by first | rfl | trivial⟩
              case measure => simp [intOf]; omega
            · have hv : Hid ((L.take (j + 1)).any (fun x => x.1 == (k : Int)) = false) := Lib.hid (by rw [hst.out, hp9.out]; simp [hpk])
              have hp2 : (p9 == (k : Int)) = false := by simpa using hpk
              clear hst
              go_wp2
              go_roundw
              case rel => exact ⟨j + 1, by omega, by go_num, by rw [hv.out], by first | rfl | trivial⟩
              case measure => simp [intOf]; omega
        · have kn : ¬ (j : Int) < (n9 : Int) := by omega
          have hbb : bj = br := by rw [← hbj.out, ← hbr.out, show j = L.length by have := hn9.out; omega, List.take_length]
          subst hbb
          have hkD : k < D.length := by have := hdn.out; omega
          have hy0 := legK_ok hok.out hkD
          obtain ⟨yl, hyy⟩ : ∃ z, Hid (legK s G D k = z) := ⟨_, Lib.hid rfl⟩
          rw [hyy.out] at hy0
          have hIN : Hid (legIn r yl = !bj) := Lib.hid (by
            have h1 := bkL_any (s := s) (G := G) (D := D) (r := r) k hkD
            have h2 := bkOf_nil (r := r) hy0
            rw [legC_is hkD, hyy.out, ← hdn.out, hL.out] at h1
            have h3 : bj = true ↔ ∃ x ∈ L, x.1 = (k : Int) := by rw [← hbr.out, List.any_eq_true]; simp
            cases h5 : legIn r yl with
            | true =>
              have h6 : ¬ bj = true := fun h => h1.1 (h3.1 h) (h2.2 h5)
              simpa using h6
            | false =>
              have h6 : bj = true := h3.2 (h1.2 (fun h => by rw [h2.1 h] at h5; cases h5))
              rw [h6]; rfl)
          obtain ⟨x9, hx9⟩ : ∃ z, Hid ((dptP r yl.o yl.h yl.su).1 = z) := ⟨_, Lib.hid rfl⟩
          obtain ⟨y9, hy9⟩ : ∃ z, Hid ((dptP r yl.o yl.h yl.su).2.1 = z) := ⟨_, Lib.hid rfl⟩
          obtain ⟨z9, hz9⟩ : ∃ z, Hid ((dptP r yl.o yl.h yl.su).2.2 = z) := ⟨_, Lib.hid rfl⟩
          have hLI : Hid ((decide (z9 = 0) && (inB yl.bd x9 y9 && inB yl.d x9 y9)) = !bj) := Lib.hid (by
            have h := legIn_dpt (r := r) hy0
            rw [hx9.out, hy9.out, hz9.out, hIN.out] at h
            exact h.symm)
          have hz12 : z9 = 0 ∨ z9 = 12 := by
            rw [← hz9.out]
            unfold dptP
            split
            · exact Or.inr rfl
            · exact Or.inl rfl
          have hsu : yl.su = s := by rw [← hyy.out]; rfl
          have HDP : Hid (∀ (Ga : Option Addr) (c : Nat) (X : World), Hid (SlRows oxV 2 X Ga T) → Calls Try.prog 37 #[.agg #[.int .i64 yl.o, .int .i64 yl.h], .int .i64 s, .agg #[.slice Ga tn c, .int .i64 r.a, .int .i64 r.b, .int .i64 r.nc, .int .i64 r.dn, .int .i64 r.br, .int .i64 r.em, .int .i64 r.pa, .int .i64 r.sc]] X fun e w' => e = .returned (.tuple #[.agg #[.int .i64 x9, .int .i64 y9], .int .i64 z9]) ∧ Below X.heap.size X w') := Lib.hid fun Ga c X hX => by
            have h := cl_good (DepthsOf_any yl.o yl.h s T r Ga tn c 0 0 0 0 X htn htl hX (Lib.hid hy0.ga) (Lib.hid (rngE_t (inB_true (by have := hy0.su; omega) (by have := hy0.su; omega)))) hE1 (Lib.hid rfl)) rfl
            rw [← hsu, hx9.out, hy9.out, hz9.out, hsu] at h
            exact h
          obtain ⟨_, _, _, _, g5, g6⟩ := hok.out.le _ (List.getElem_mem hkD)
          obtain ⟨gk, hgk⟩ : ∃ g : Nat, D[k].g = g := ⟨D[k].g.toNat, (Int.toNat_of_nonneg g5).symm⟩
          have hgG : gk < G.length := by omega
          have hg8 := hok.out.g8
          obtain ⟨gb, gf, rfl, hlg, hGR⟩ := hG.out.at' hgG
          obtain ⟨lb, lo, rfl, hll, hDR⟩ := hD.out.at' hkD
          obtain ⟨g0, g1⟩ := ga_at hGR hgG
          have f1 := (le_at hDR hkD).2.1
          have f2 := (le_at hDR hkD).2.2
          have eG : G.getD gk default = G[gk] := by rw [List.getD_eq_getElem?_getD, List.getElem?_eq_getElem hgG]; rfl
          have e0 : G[gk].o = yl.o := by rw [← hyy.out]; show _ = (G.getD (D.getD k default).g.toNat default).o; rw [getD_leE hkD, hgk, Int.toNat_natCast, eG]
          have e1 : G[gk].h = yl.h := by rw [← hyy.out]; show _ = (G.getD (D.getD k default).g.toNat default).h; rw [getD_leE hkD, hgk, Int.toNat_natCast, eG]
          have e2 : D[k].d = yl.d := by rw [← hyy.out]; show _ = (D.getD k default).d; rw [getD_leE hkD]
          rw [e0] at g0
          rw [e1] at g1
          rw [e2] at f1
          rw [hgk] at f2
          have gk1 : (gk : Int) < (gn : Int) := by have := hgn.out; omega
          have gk0 : ¬ (gk : Int) < 0 := by omega
          have kk1 : (k : Int) < (dn : Int) := by omega
          have kk0 : ¬ (k : Int) < 0 := by omega
          have hwk : IntKind.i64.wrap ((k : Int) + 1) = (k : Int) + 1 := IntWalk.i64_in _ (by omega)
          have lPB := PB.out.lt
          have lRB := RB.out.lt
          have hll2 : lb < wr.heap.size := by omega
          have hlg2 : gb < wr.heap.size := by omega
          have f2' := (hB.cell (p := ⟨lb, lo + k * 3 + 2, none⟩) hll).trans f2
          have g0' := (hB.cell (p := ⟨gb, gf + gk * 2, none⟩) hlg).trans g0
          have g1' := (hB.cell (p := ⟨gb, gf + gk * 2 + 1, none⟩) hlg).trans g1
          obtain ⟨c0, c1, c2, c3⟩ := b4 PB.out
          obtain ⟨r0, r1, r2, r3, r4, r5, r6, r7, r8⟩ := b9 RB.out
          clear g0 g1 f2 e0 e1 e2 eG g5 g6 hGR hsu hy0 hgk hg8 hIN
          by_cases hk0 : k = 0
          · have hbd0 : yl.bd = 0 := by rw [← hyy.out]; show (ptK D k).d = 0; unfold ptK; rw [if_pos hk0]
            have h0 : ¬ (0 : Int) < (k : Int) := by omega
            have h0n : ¬ 0 < k := by omega
            have h0d : decide (0 < k) = false := by simp [hk0]
            have HK0 := Lib.hid hk0
            rw [hbd0] at hLI
            clear hDR hk0
            go_upto_region 19 with (fail)
            go_cut [11, 12] from 81 (fun s11 s12 wx => ∃ b7 : Nat, s11 = .pointer (some ⟨b7, 0, none⟩) ∧ s12 = .int .i64 z9 ∧ Hid (BlkF wx w.heap.size b7 [.int .i64 x9, .int .i64 y9]) ∧ Hid (BlkF wx w.heap.size w.heap.size [.string nm, .int .i64 s, .slice (some ⟨gb, gf, none⟩) gn gc, .slice (some ⟨lb, lo, none⟩) dn dc]) ∧ Hid (BlkF wx w.heap.size (w.heap.size + 1) [.slice AT tn tc, .int .i64 r.a, .int .i64 r.b, .int .i64 r.nc, .int .i64 r.dn, .int .i64 r.br, .int .i64 r.em, .int .i64 r.pa, .int .i64 r.sc]) ∧ Hid (SlRows p2V 2 wx C9 L) ∧ Hid (Below w.heap.size w wx))
            case first =>
              have HS : Hid (∀ y, Below wr.heap.size wr y → y.cell? ⟨w.heap.size, 0, none⟩ = some (.string nm) ∧ y.cell? ⟨w.heap.size, 1, none⟩ = some (.int .i64 s) ∧ y.cell? ⟨w.heap.size, 2, none⟩ = some (.slice (some ⟨gb, gf, none⟩) gn gc) ∧ y.cell? ⟨w.heap.size, 3, none⟩ = some (.slice (some ⟨lb, lo, none⟩) dn dc) ∧ y.cell? ⟨w.heap.size + 1, 0, none⟩ = some (.slice AT tn tc) ∧ y.cell? ⟨w.heap.size + 1, 1, none⟩ = some (.int .i64 r.a) ∧ y.cell? ⟨w.heap.size + 1, 2, none⟩ = some (.int .i64 r.b) ∧ y.cell? ⟨w.heap.size + 1, 3, none⟩ = some (.int .i64 r.nc) ∧ y.cell? ⟨w.heap.size + 1, 4, none⟩ = some (.int .i64 r.dn) ∧ y.cell? ⟨w.heap.size + 1, 5, none⟩ = some (.int .i64 r.br) ∧ y.cell? ⟨w.heap.size + 1, 6, none⟩ = some (.int .i64 r.em) ∧ y.cell? ⟨w.heap.size + 1, 7, none⟩ = some (.int .i64 r.pa) ∧ y.cell? ⟨w.heap.size + 1, 8, none⟩ = some (.int .i64 r.sc) ∧ y.cell? ⟨lb, lo + k * 3 + 2, none⟩ = some (.int .i64 (gk : Int)) ∧ y.cell? ⟨gb, gf + gk * 2, none⟩ = some (.int .i64 yl.o) ∧ y.cell? ⟨gb, gf + gk * 2 + 1, none⟩ = some (.int .i64 yl.h)) := Lib.hid fun y hy => ⟨(hy.cell (p := ⟨w.heap.size, 0, none⟩) lPB).trans c0, (hy.cell (p := ⟨w.heap.size, 1, none⟩) lPB).trans c1, (hy.cell (p := ⟨w.heap.size, 2, none⟩) lPB).trans c2, (hy.cell (p := ⟨w.heap.size, 3, none⟩) lPB).trans c3, (hy.cell (p := ⟨w.heap.size + 1, 0, none⟩) lRB).trans r0, (hy.cell (p := ⟨w.heap.size + 1, 1, none⟩) lRB).trans r1, (hy.cell (p := ⟨w.heap.size + 1, 2, none⟩) lRB).trans r2, (hy.cell (p := ⟨w.heap.size + 1, 3, none⟩) lRB).trans r3, (hy.cell (p := ⟨w.heap.size + 1, 4, none⟩) lRB).trans r4, (hy.cell (p := ⟨w.heap.size + 1, 5, none⟩) lRB).trans r5, (hy.cell (p := ⟨w.heap.size + 1, 6, none⟩) lRB).trans r6, (hy.cell (p := ⟨w.heap.size + 1, 7, none⟩) lRB).trans r7, (hy.cell (p := ⟨w.heap.size + 1, 8, none⟩) lRB).trans r8, (hy.cell (p := ⟨lb, lo + k * 3 + 2, none⟩) hll2).trans f2', (hy.cell (p := ⟨gb, gf + gk * 2, none⟩) hlg2).trans g0', (hy.cell (p := ⟨gb, gf + gk * 2 + 1, none⟩) hlg2).trans g1'⟩
              clear c0 c1 c2 r0 r1 r2 r3 r4 r5 r6 r7 r8 f2' g0' g1'
              refine wp_region_held_drew (S := (fun w' => w'.cell? ⟨w.heap.size, 0, none⟩ = some (.string nm) ∧ w'.cell? ⟨w.heap.size, 1, none⟩ = some (.int .i64 s) ∧ w'.cell? ⟨w.heap.size, 2, none⟩ = some (.slice (some ⟨gb, gf, none⟩) gn gc) ∧ w'.cell? ⟨w.heap.size, 3, none⟩ = some (.slice (some ⟨lb, lo, none⟩) dn dc) ∧ w'.cell? ⟨w.heap.size + 1, 0, none⟩ = some (.slice AT tn tc) ∧ w'.cell? ⟨w.heap.size + 1, 1, none⟩ = some (.int .i64 r.a) ∧ w'.cell? ⟨w.heap.size + 1, 2, none⟩ = some (.int .i64 r.b) ∧ w'.cell? ⟨w.heap.size + 1, 3, none⟩ = some (.int .i64 r.nc) ∧ w'.cell? ⟨w.heap.size + 1, 4, none⟩ = some (.int .i64 r.dn) ∧ w'.cell? ⟨w.heap.size + 1, 5, none⟩ = some (.int .i64 r.br) ∧ w'.cell? ⟨w.heap.size + 1, 6, none⟩ = some (.int .i64 r.em) ∧ w'.cell? ⟨w.heap.size + 1, 7, none⟩ = some (.int .i64 r.pa) ∧ w'.cell? ⟨w.heap.size + 1, 8, none⟩ = some (.int .i64 r.sc) ∧ w'.cell? ⟨lb, lo + k * 3 + 2, none⟩ = some (.int .i64 (gk : Int)) ∧ w'.cell? ⟨gb, gf + gk * 2, none⟩ = some (.int .i64 yl.o) ∧ w'.cell? ⟨gb, gf + gk * 2 + 1, none⟩ = some (.int .i64 yl.h))) (by kernel_rfl) (HS.out _ (Below.refl _ _).drew) (fun hHeld => ?_)
              have hT0 : Below wr.heap.size wr wr.drew := (Below.refl _ _).drew
              generalize hdr : wr.drew = y0 at *
              clear hdr
              refine tkH 0 ⟨some 82, _, _, _, _, _⟩ ?_ rfl ?_ (by assumption) ?_
              rotate_left
              · (intro w hSw; (try dsimp only at hSw); go_simp; all_goals with_reducible rfl)
              try simp only [Act.put, sA, sB, sC]
              refine tkH 1 ⟨some 83, _, _, _, _, _⟩ ?_ rfl ?_ (by assumption) ?_
              rotate_left
              · (intro w hSw; (try dsimp only at hSw); go_simp; all_goals with_reducible rfl)
              try simp only [Act.put, sA, sB, sC]
              refine tkH 2 ⟨some 84, _, _, _, _, _⟩ ?_ rfl ?_ (by assumption) ?_
              rotate_left
              · (intro w hSw; (try dsimp only at hSw); go_simp; all_goals with_reducible rfl)
              try simp only [Act.put, sA, sB, sC]
              refine tkH 3 ⟨some 85, _, _, _, _, _⟩ ?_ rfl ?_ (by assumption) ?_
              rotate_left
              · (intro w hSw; (try dsimp only at hSw); go_simp; all_goals with_reducible rfl)
              try simp only [Act.put, sA, sB, sC]
              refine tkH 4 ⟨some 86, _, _, _, _, _⟩ ?_ rfl ?_ (by assumption) ?_
              rotate_left
              · (intro w hSw; (try dsimp only at hSw); go_simp; all_goals with_reducible rfl)
              try simp only [Act.put, sA, sB, sC]
              refine tkH 5 ⟨some 87, _, _, _, _, _⟩ ?_ rfl ?_ (by assumption) ?_
              rotate_left
              · (intro w hSw; (try dsimp only at hSw); go_simp; all_goals with_reducible rfl)
              try simp only [Act.put, sA, sB, sC]
              refine tkH 6 ⟨some 88, _, _, _, _, _⟩ ?_ rfl ?_ (by assumption) ?_
              rotate_left
              · (intro w hSw; (try dsimp only at hSw); go_simp; all_goals with_reducible rfl)
              try simp only [Act.put, sA, sB, sC]
              refine tkH 7 ⟨some 89, _, _, _, _, _⟩ ?_ rfl ?_ (by assumption) ?_
              rotate_left
              · (intro w hSw; (try dsimp only at hSw); go_simp; all_goals with_reducible rfl)
              try simp only [Act.put, sA, sB, sC]
              refine tkH 8 ⟨some 90, _, _, _, _, _⟩ ?_ rfl ?_ (by assumption) ?_
              rotate_left
              · (intro w hSw; (try dsimp only at hSw); go_simp; all_goals with_reducible rfl)
              try simp only [Act.put, sA, sB, sC]
              refine tkH 9 ⟨some 91, _, _, _, _, _⟩ ?_ rfl ?_ (by assumption) ?_
              rotate_left
              · (intro w hSw; (try dsimp only at hSw); go_simp; all_goals with_reducible rfl)
              try simp only [Act.put, sA, sB, sC]
              refine tkH 10 ⟨some 92, _, _, _, _, _⟩ ?_ rfl ?_ (by assumption) ?_
              rotate_left
              · (intro w hSw; (try dsimp only at hSw); go_simp; all_goals with_reducible rfl)
              try simp only [Act.put, sA, sB, sC]
              refine tkH 11 ⟨some 93, _, _, _, _, _⟩ ?_ rfl ?_ (by assumption) ?_
              rotate_left
              · (intro w hSw; (try dsimp only at hSw); go_simp; all_goals with_reducible rfl)
              try simp only [Act.put, sA, sB, sC]
              refine tkH 12 ⟨some 94, _, _, _, _, _⟩ ?_ rfl ?_ (by assumption) ?_
              rotate_left
              · (intro w hSw; (try dsimp only at hSw); go_simp; all_goals with_reducible rfl)
              try simp only [Act.put, sA, sB, sC]
              refine wpAnyH_ready (rs := [13, 18]) (by kernel_rfl) (by simp) ?_
              refine AllReadyH.cons rfl (fun K hK => ?_) (AllReadyH.cons rfl (fun K hK => ?_) (AllReadyH.nil))
              · skip
                go_simp
                refine (copyR_is T r AT tn tc _ htn ht6 (Lib.hid (hT.out.below (hB.trans (hT0.mono hB.size)))) CT).mono ?_
                rintro e y1 ⟨AT2, ct2, rfl, hst, hby0⟩
                have hT1 : Below wr.heap.size wr y1 := hT0.trans (hby0.mono hT0.size)
                have HT2 := Lib.hid hst
                clear hst
                clear hby0
                go_wp2_with fail
                refine hK.out _ _ (HS.out _ hT1) (fun hHeld => ?_)
                clear hK K
                try simp only [Act.put, sA, sB, sC]
                refine wpAnyH_ready (rs := [14, 18]) (by kernel_rfl) (by simp) ?_
                refine AllReadyH.cons rfl (fun K hK => ?_) (AllReadyH.cons rfl (fun K hK => ?_) (AllReadyH.nil))
                · skip
                  go_simp
                  refine (HDP.out AT2 ct2 _ HT2).mono ?_
                  rintro e y2 ⟨rfl, hby1⟩
                  have hT2 : Below wr.heap.size wr y2 := hT1.trans (hby1.mono hT1.size)
                  replace HT2 := Lib.hid (HT2.out.below hby1)
                  clear hby1
                  go_wp2_with fail
                  refine hK.out _ _ (HS.out _ hT2) (fun hHeld => ?_)
                  clear hK K
                  try simp only [Act.put, sA, sB, sC]
                  refine tkH 15 ⟨some 81, _, _, _, _, _⟩ ?_ rfl ?_ (by assumption) ?_
                  rotate_left
                  · (intro w hSw; (try dsimp only at hSw); go_simp; all_goals with_reducible rfl)
                  try simp only [Act.put, sA, sB, sC]
                  refine tkH 16 ⟨some 97, _, _, _, _, _⟩ ?_ rfl ?_ (by assumption) ?_
                  rotate_left
                  · (intro w hSw; (try dsimp only at hSw); go_simp; all_goals with_reducible rfl)
                  try simp only [Act.put, sA, sB, sC]
                  refine tkH 17 ⟨some 98, _, _, _, _, _⟩ ?_ rfl ?_ (by assumption) ?_
                  rotate_left
                  · (intro w hSw; (try dsimp only at hSw); go_simp; all_goals with_reducible rfl)
                  try simp only [Act.put, sA, sB, sC]
                  refine wpAnyH_ready (rs := [18]) (by kernel_rfl) (by simp) ?_
                  refine AllReadyH.cons rfl (fun K hK => ?_) (AllReadyH.nil)
                  go_simp
                  go_wp2_with fail
                  refine hK.out _ _ (HS.out _ (hT2.alloc hT2.size _)) (fun hHeld => ?_)
                  clear hK K
                  try simp only [Act.put, sA, sB, sC]
                  have HNb7 := Lib.hid (BlkF.made (B := wr.heap.size) y2 [.int .i64 0, .int .i64 0] 47 hT2.size)
                  have hby2 : Below y2.heap.size y2 (y2.alloc (.cells #[.int .i64 0, .int .i64 0] 47)) := (Below.refl _ _).alloc (Nat.le_refl _) _
                  replace HT2 := Lib.hid (HT2.out.below hby2)
                  have hnb7 : wr.heap.size ≤ y2.heap.size := hT2.size
                  have exb7 : ∃ x, y2.heap.size = x := ⟨_, rfl⟩
                  generalize hq2 : y2.alloc (.cells #[.int .i64 0, .int .i64 0] 47) = y3 at *
                  have hT3 : Below wr.heap.size wr y3 := hT2.trans (hby2.mono hT2.size)
                  obtain ⟨b7, eb7⟩ := exb7
                  rw [eb7] at HNb7 hnb7 ⊢
                  clear hby2 hq2
                  refine wpAnyH_ready (rs := [19]) (by kernel_rfl) (by simp) ?_
                  refine AllReadyH.cons rfl (fun K hK => ?_) (AllReadyH.nil)
                  have HBs : Hid (BlkF ((y3.setCell ⟨b7, 0, none⟩ (.int .i64 x9)).setCell ⟨b7, 1, none⟩ (.int .i64 y9)) wr.heap.size b7 [.int .i64 x9, .int .i64 y9]) := Lib.hid (BlkF.st (vs' := [.int .i64 x9, .int .i64 y9]) HNb7.out rfl)
                  have hTs : Below wr.heap.size wr ((y3.setCell ⟨b7, 0, none⟩ (.int .i64 x9)).setCell ⟨b7, 1, none⟩ (.int .i64 y9)) := stW_below HNb7.out.ge [.int .i64 x9, .int .i64 y9] y3 0 hT3
                  obtain ⟨u_0, u_1⟩ := b2 HNb7.out
                  have u_f := HNb7.out.fz
                  go_simp
                  go_wp2_with fail
                  refine hK.out _ _ (HS.out _ hTs) (fun hHeld => ?_)
                  clear hK K
                  try simp only [Act.put, sA, sB, sC]
                  clear u_f u_0 u_1
                  clear HNb7
                  generalize hs3 : ((y3.setCell ⟨b7, 0, none⟩ (.int .i64 x9)).setCell ⟨b7, 1, none⟩ (.int .i64 y9)) = y4 at *
                  clear hs3
                  have hT4 := hTs
                  clear hTs
                  have HNb7 := HBs
                  clear HBs
                  refine tkH 20 ⟨some 12, _, _, _, _, _⟩ ?_ rfl ?_ (by assumption) ?_
                  rotate_left
                  · (intro w hSw; (try dsimp only at hSw); go_simp; all_goals with_reducible rfl)
                  try simp only [Act.put, sA, sB, sC]
                  refine wpAnyH_done (by kernel_rfl) ?_ _
                  go_wp2_with fail
                  go_meet
                  exact ⟨b7, rfl, rfl, Lib.hid (HNb7.out.lowerW hB.size), Lib.hid (PB.out.below hT4), Lib.hid (RB.out.below hT4), Lib.hid (HC.out.below hT4), Lib.hid (hB.trans (hT4.mono hB.size))⟩
                · skip
                  go_simp
                  go_wp2_with fail
                  refine hK.out _ _ (HS.out _ (hT1.alloc hT1.size _)) (fun hHeld => ?_)
                  clear hK K
                  try simp only [Act.put, sA, sB, sC]
                  have HNb7 := Lib.hid (BlkF.made (B := wr.heap.size) y1 [.int .i64 0, .int .i64 0] 47 hT1.size)
                  have hby1 : Below y1.heap.size y1 (y1.alloc (.cells #[.int .i64 0, .int .i64 0] 47)) := (Below.refl _ _).alloc (Nat.le_refl _) _
                  replace HT2 := Lib.hid (HT2.out.below hby1)
                  have hnb7 : wr.heap.size ≤ y1.heap.size := hT1.size
                  have exb7 : ∃ x, y1.heap.size = x := ⟨_, rfl⟩
                  generalize hq1 : y1.alloc (.cells #[.int .i64 0, .int .i64 0] 47) = y2 at *
                  have hT2 : Below wr.heap.size wr y2 := hT1.trans (hby1.mono hT1.size)
                  obtain ⟨b7, eb7⟩ := exb7
                  rw [eb7] at HNb7 hnb7 ⊢
                  clear hby1 hq1
                  refine wpAnyH_ready (rs := [14]) (by kernel_rfl) (by simp) ?_
                  refine AllReadyH.cons rfl (fun K hK => ?_) (AllReadyH.nil)
                  go_simp
                  refine (HDP.out AT2 ct2 _ HT2).mono ?_
                  rintro e y3 ⟨rfl, hby2⟩
                  have hT3 : Below wr.heap.size wr y3 := hT2.trans (hby2.mono hT2.size)
                  replace HT2 := Lib.hid (HT2.out.below hby2)
                  replace HNb7 := Lib.hid (HNb7.out.below hby2)
                  clear hby2
                  go_wp2_with fail
                  refine hK.out _ _ (HS.out _ hT3) (fun hHeld => ?_)
                  clear hK K
                  try simp only [Act.put, sA, sB, sC]
                  refine tkH 15 ⟨some 81, _, _, _, _, _⟩ ?_ rfl ?_ (by assumption) ?_
                  rotate_left
                  · (intro w hSw; (try dsimp only at hSw); go_simp; all_goals with_reducible rfl)
                  try simp only [Act.put, sA, sB, sC]
                  refine tkH 16 ⟨some 97, _, _, _, _, _⟩ ?_ rfl ?_ (by assumption) ?_
                  rotate_left
                  · (intro w hSw; (try dsimp only at hSw); go_simp; all_goals with_reducible rfl)
                  try simp only [Act.put, sA, sB, sC]
                  refine tkH 17 ⟨some 98, _, _, _, _, _⟩ ?_ rfl ?_ (by assumption) ?_
                  rotate_left
                  · (intro w hSw; (try dsimp only at hSw); go_simp; all_goals with_reducible rfl)
                  try simp only [Act.put, sA, sB, sC]
                  refine wpAnyH_ready (rs := [19]) (by kernel_rfl) (by simp) ?_
                  refine AllReadyH.cons rfl (fun K hK => ?_) (AllReadyH.nil)
                  have HBs : Hid (BlkF ((y3.setCell ⟨b7, 0, none⟩ (.int .i64 x9)).setCell ⟨b7, 1, none⟩ (.int .i64 y9)) wr.heap.size b7 [.int .i64 x9, .int .i64 y9]) := Lib.hid (BlkF.st (vs' := [.int .i64 x9, .int .i64 y9]) HNb7.out rfl)
                  have hTs : Below wr.heap.size wr ((y3.setCell ⟨b7, 0, none⟩ (.int .i64 x9)).setCell ⟨b7, 1, none⟩ (.int .i64 y9)) := stW_below HNb7.out.ge [.int .i64 x9, .int .i64 y9] y3 0 hT3
                  obtain ⟨u_0, u_1⟩ := b2 HNb7.out
                  have u_f := HNb7.out.fz
                  go_simp
                  go_wp2_with fail
                  refine hK.out _ _ (HS.out _ hTs) (fun hHeld => ?_)
                  clear hK K
                  try simp only [Act.put, sA, sB, sC]
                  clear u_f u_0 u_1
                  clear HNb7
                  generalize hs3 : ((y3.setCell ⟨b7, 0, none⟩ (.int .i64 x9)).setCell ⟨b7, 1, none⟩ (.int .i64 y9)) = y4 at *
                  clear hs3
                  have hT4 := hTs
                  clear hTs
                  have HNb7 := HBs
                  clear HBs
                  refine tkH 20 ⟨some 12, _, _, _, _, _⟩ ?_ rfl ?_ (by assumption) ?_
                  rotate_left
                  · (intro w hSw; (try dsimp only at hSw); go_simp; all_goals with_reducible rfl)
                  try simp only [Act.put, sA, sB, sC]
                  refine wpAnyH_done (by kernel_rfl) ?_ _
                  go_wp2_with fail
                  go_meet
                  exact ⟨b7, rfl, rfl, Lib.hid (HNb7.out.lowerW hB.size), Lib.hid (PB.out.below hT4), Lib.hid (RB.out.below hT4), Lib.hid (HC.out.below hT4), Lib.hid (hB.trans (hT4.mono hB.size))⟩
              · skip
                go_simp
                go_wp2_with fail
                refine hK.out _ _ (HS.out _ (hT0.alloc hT0.size _)) (fun hHeld => ?_)
                clear hK K
                try simp only [Act.put, sA, sB, sC]
                have HNb7 := Lib.hid (BlkF.made (B := wr.heap.size) y0 [.int .i64 0, .int .i64 0] 47 hT0.size)
                have hby0 : Below y0.heap.size y0 (y0.alloc (.cells #[.int .i64 0, .int .i64 0] 47)) := (Below.refl _ _).alloc (Nat.le_refl _) _
                have hnb7 : wr.heap.size ≤ y0.heap.size := hT0.size
                have exb7 : ∃ x, y0.heap.size = x := ⟨_, rfl⟩
                generalize hq0 : y0.alloc (.cells #[.int .i64 0, .int .i64 0] 47) = y1 at *
                have hT1 : Below wr.heap.size wr y1 := hT0.trans (hby0.mono hT0.size)
                obtain ⟨b7, eb7⟩ := exb7
                rw [eb7] at HNb7 hnb7 ⊢
                clear hby0 hq0
                refine wpAnyH_ready (rs := [13]) (by kernel_rfl) (by simp) ?_
                refine AllReadyH.cons rfl (fun K hK => ?_) (AllReadyH.nil)
                go_simp
                refine (copyR_is T r AT tn tc _ htn ht6 (Lib.hid (hT.out.below (hB.trans (hT1.mono hB.size)))) CT).mono ?_
                rintro e y2 ⟨AT2, ct2, rfl, hst, hby1⟩
                have hT2 : Below wr.heap.size wr y2 := hT1.trans (hby1.mono hT1.size)
                replace HNb7 := Lib.hid (HNb7.out.below hby1)
                have HT2 := Lib.hid hst
                clear hst
                clear hby1
                go_wp2_with fail
                refine hK.out _ _ (HS.out _ hT2) (fun hHeld => ?_)
                clear hK K
                try simp only [Act.put, sA, sB, sC]
                refine wpAnyH_ready (rs := [14]) (by kernel_rfl) (by simp) ?_
                refine AllReadyH.cons rfl (fun K hK => ?_) (AllReadyH.nil)
                go_simp
                refine (HDP.out AT2 ct2 _ HT2).mono ?_
                rintro e y3 ⟨rfl, hby2⟩
                have hT3 : Below wr.heap.size wr y3 := hT2.trans (hby2.mono hT2.size)
                replace HNb7 := Lib.hid (HNb7.out.below hby2)
                replace HT2 := Lib.hid (HT2.out.below hby2)
                clear hby2
                go_wp2_with fail
                refine hK.out _ _ (HS.out _ hT3) (fun hHeld => ?_)
                clear hK K
                try simp only [Act.put, sA, sB, sC]
                refine tkH 15 ⟨some 81, _, _, _, _, _⟩ ?_ rfl ?_ (by assumption) ?_
                rotate_left
                · (intro w hSw; (try dsimp only at hSw); go_simp; all_goals with_reducible rfl)
                try simp only [Act.put, sA, sB, sC]
                refine tkH 16 ⟨some 97, _, _, _, _, _⟩ ?_ rfl ?_ (by assumption) ?_
                rotate_left
                · (intro w hSw; (try dsimp only at hSw); go_simp; all_goals with_reducible rfl)
                try simp only [Act.put, sA, sB, sC]
                refine tkH 17 ⟨some 98, _, _, _, _, _⟩ ?_ rfl ?_ (by assumption) ?_
                rotate_left
                · (intro w hSw; (try dsimp only at hSw); go_simp; all_goals with_reducible rfl)
                try simp only [Act.put, sA, sB, sC]
                refine wpAnyH_ready (rs := [19]) (by kernel_rfl) (by simp) ?_
                refine AllReadyH.cons rfl (fun K hK => ?_) (AllReadyH.nil)
                have HBs : Hid (BlkF ((y3.setCell ⟨b7, 0, none⟩ (.int .i64 x9)).setCell ⟨b7, 1, none⟩ (.int .i64 y9)) wr.heap.size b7 [.int .i64 x9, .int .i64 y9]) := Lib.hid (BlkF.st (vs' := [.int .i64 x9, .int .i64 y9]) HNb7.out rfl)
                have hTs : Below wr.heap.size wr ((y3.setCell ⟨b7, 0, none⟩ (.int .i64 x9)).setCell ⟨b7, 1, none⟩ (.int .i64 y9)) := stW_below HNb7.out.ge [.int .i64 x9, .int .i64 y9] y3 0 hT3
                obtain ⟨u_0, u_1⟩ := b2 HNb7.out
                have u_f := HNb7.out.fz
                go_simp
                go_wp2_with fail
                refine hK.out _ _ (HS.out _ hTs) (fun hHeld => ?_)
                clear hK K
                try simp only [Act.put, sA, sB, sC]
                clear u_f u_0 u_1
                clear HNb7
                generalize hs3 : ((y3.setCell ⟨b7, 0, none⟩ (.int .i64 x9)).setCell ⟨b7, 1, none⟩ (.int .i64 y9)) = y4 at *
                clear hs3
                have hT4 := hTs
                clear hTs
                have HNb7 := HBs
                clear HBs
                refine tkH 20 ⟨some 12, _, _, _, _, _⟩ ?_ rfl ?_ (by assumption) ?_
                rotate_left
                · (intro w hSw; (try dsimp only at hSw); go_simp; all_goals with_reducible rfl)
                try simp only [Act.put, sA, sB, sC]
                refine wpAnyH_done (by kernel_rfl) ?_ _
                go_wp2_with fail
                go_meet
                exact ⟨b7, rfl, rfl, Lib.hid (HNb7.out.lowerW hB.size), Lib.hid (PB.out.below hT4), Lib.hid (RB.out.below hT4), Lib.hid (HC.out.below hT4), Lib.hid (hB.trans (hT4.mono hB.size))⟩
            case rest =>
              obtain ⟨b7, rfl, rfl, XB, PB9, RB9, HC9, HB9⟩ := hcut
              have hBc := HB9.out
              have zbc := hBc.size
              obtain ⟨c0, c1, c2, c3⟩ := b4 PB9.out
              obtain ⟨x0, x1⟩ := b2 XB.out
              have lPB := PB9.out.lt
              have lXB := XB.out.lt
              have hll3 : lb < wc.heap.size := by omega
              have f1' := (hBc.cell (p := ⟨lb, lo + k * 3 + 1, none⟩) hll).trans f1
              obtain ⟨bw1, hb1⟩ : ∃ z, Hid (inB 0 x9 y9 = z) := ⟨_, Lib.hid rfl⟩
              obtain ⟨bw2, hb2⟩ : ∃ z, Hid (inB yl.d x9 y9 = z) := ⟨_, Lib.hid rfl⟩
              rw [hb1.out, hb2.out] at hLI
              have HS : Hid (∀ y, Below wc.heap.size wc y → y.cell? ⟨w.heap.size, 0, none⟩ = some (.string nm) ∧ y.cell? ⟨w.heap.size, 1, none⟩ = some (.int .i64 s) ∧ y.cell? ⟨w.heap.size, 2, none⟩ = some (.slice (some ⟨gb, gf, none⟩) gn gc) ∧ y.cell? ⟨w.heap.size, 3, none⟩ = some (.slice (some ⟨lb, lo, none⟩) dn dc) ∧ y.cell? ⟨b7, 0, none⟩ = some (.int .i64 x9) ∧ y.cell? ⟨b7, 1, none⟩ = some (.int .i64 y9) ∧ y.cell? ⟨lb, lo + k * 3 + 1, none⟩ = some (.int .i64 yl.d)) := Lib.hid fun y hy => ⟨(hy.cell (p := ⟨w.heap.size, 0, none⟩) lPB).trans c0, (hy.cell (p := ⟨w.heap.size, 1, none⟩) lPB).trans c1, (hy.cell (p := ⟨w.heap.size, 2, none⟩) lPB).trans c2, (hy.cell (p := ⟨w.heap.size, 3, none⟩) lPB).trans c3, (hy.cell (p := ⟨b7, 0, none⟩) lXB).trans x0, (hy.cell (p := ⟨b7, 1, none⟩) lXB).trans x1, (hy.cell (p := ⟨lb, lo + k * 3 + 1, none⟩) hll3).trans f1'⟩
              clear f1' x0 x1 c0 c1 c2 f1 HB9
              rcases hz12 with rfl | rfl
              · cases bw1 with
                | false =>
                  have hq : bj = true := by have h := hLI.out; revert h; cases bj <;> simp
                  subst hq
                  clear hLI
                  go_upto_region 22 with (fail)
                  refine wp_region_held_drew (S := (fun w' => w'.cell? ⟨w.heap.size, 0, none⟩ = some (.string nm) ∧ w'.cell? ⟨w.heap.size, 1, none⟩ = some (.int .i64 s) ∧ w'.cell? ⟨w.heap.size, 2, none⟩ = some (.slice (some ⟨gb, gf, none⟩) gn gc) ∧ w'.cell? ⟨w.heap.size, 3, none⟩ = some (.slice (some ⟨lb, lo, none⟩) dn dc) ∧ w'.cell? ⟨b7, 0, none⟩ = some (.int .i64 x9) ∧ w'.cell? ⟨b7, 1, none⟩ = some (.int .i64 y9) ∧ w'.cell? ⟨lb, lo + k * 3 + 1, none⟩ = some (.int .i64 yl.d))) (by kernel_rfl) (HS.out _ (Below.refl _ _).drew) (fun hHeld => ?_)
                  have hT0 : Below wc.heap.size wc wc.drew := (Below.refl _ _).drew
                  generalize hdr : wc.drew = y0 at *
                  clear hdr
                  refine tkH 0 ⟨some 105, _, _, _, _, _⟩ ?_ rfl ?_ (by assumption) ?_
                  rotate_left
                  · (intro w hSw; (try dsimp only at hSw); go_simp; all_goals with_reducible rfl)
                  try simp only [Act.put, sA, sB, sC]
                  refine tkH 1 ⟨some 106, _, _, _, _, _⟩ ?_ rfl ?_ (by assumption) ?_
                  rotate_left
                  · (intro w hSw; (try dsimp only at hSw); go_simp; all_goals with_reducible rfl)
                  try simp only [Act.put, sA, sB, sC]
                  refine tkH 2 ⟨some 107, _, _, _, _, _⟩ ?_ rfl ?_ (by assumption) ?_
                  rotate_left
                  · (intro w hSw; (try dsimp only at hSw); go_simp; all_goals with_reducible rfl)
                  try simp only [Act.put, sA, sB, sC]
                  refine tkH 3 ⟨some 108, _, _, _, _, _⟩ ?_ rfl ?_ (by assumption) ?_
                  rotate_left
                  · (intro w hSw; (try dsimp only at hSw); go_simp; all_goals with_reducible rfl)
                  try simp only [Act.put, sA, sB, sC]
                  refine tkH 4 ⟨some 109, _, _, _, _, _⟩ ?_ rfl ?_ (by assumption) ?_
                  rotate_left
                  · (intro w hSw; (try dsimp only at hSw); go_simp; all_goals with_reducible rfl)
                  try simp only [Act.put, sA, sB, sC]
                  refine tkH 5 ⟨some 110, _, _, _, _, _⟩ ?_ rfl ?_ (by assumption) ?_
                  rotate_left
                  · (intro w hSw; (try dsimp only at hSw); go_simp; all_goals with_reducible rfl)
                  try simp only [Act.put, sA, sB, sC]
                  refine tkH 6 ⟨some 111, _, _, _, _, _⟩ ?_ rfl ?_ (by assumption) ?_
                  rotate_left
                  · (intro w hSw; (try dsimp only at hSw); go_simp; all_goals with_reducible rfl)
                  try simp only [Act.put, sA, sB, sC]
                  refine tkH 7 ⟨some 112, _, _, _, _, _⟩ ?_ rfl ?_ (by assumption) ?_
                  rotate_left
                  · (intro w hSw; (try dsimp only at hSw); go_simp; all_goals with_reducible rfl)
                  try simp only [Act.put, sA, sB, sC]
                  refine wpAnyH_ready (rs := [8]) (by kernel_rfl) (by simp) ?_
                  refine AllReadyH.cons rfl (fun K hK => ?_) (AllReadyH.nil)
                  go_simp
                  refine (wB _ _ _ false _ hb1).mono ?_
                  rintro e y1 ⟨rfl, hby0⟩
                  have hT1 : Below wc.heap.size wc y1 := hT0.trans (hby0.mono hT0.size)
                  clear hby0
                  go_wp2_with fail
                  refine hK.out _ _ (HS.out _ hT1) (fun hHeld => ?_)
                  clear hK K
                  try simp only [Act.put, sA, sB, sC]
                  refine tkH 9 ⟨some 114, _, _, _, _, _⟩ ?_ rfl ?_ (by assumption) ?_
                  rotate_left
                  · (intro w hSw; (try dsimp only at hSw); go_simp; all_goals with_reducible rfl)
                  try simp only [Act.put, sA, sB, sC]
                  refine tkH 10 ⟨some 115, _, _, _, _, _⟩ ?_ rfl ?_ (by assumption) ?_
                  rotate_left
                  · (intro w hSw; (try dsimp only at hSw); go_simp; all_goals with_reducible rfl)
                  try simp only [Act.put, sA, sB, sC]
                  refine skH 11 ⟨some 116, _, _, _, _, _⟩ rfl (by assumption) ?_
                  try simp only [Act.put, sA, sB, sC]
                  refine skH 12 ⟨some 117, _, _, _, _, _⟩ rfl (by assumption) ?_
                  try simp only [Act.put, sA, sB, sC]
                  refine skH 13 ⟨some 118, _, _, _, _, _⟩ rfl (by assumption) ?_
                  try simp only [Act.put, sA, sB, sC]
                  refine skH 14 ⟨some 119, _, _, _, _, _⟩ rfl (by assumption) ?_
                  try simp only [Act.put, sA, sB, sC]
                  refine skH 15 ⟨some 120, _, _, _, _, _⟩ rfl (by assumption) ?_
                  try simp only [Act.put, sA, sB, sC]
                  refine skH 16 ⟨some 121, _, _, _, _, _⟩ rfl (by assumption) ?_
                  try simp only [Act.put, sA, sB, sC]
                  refine skH 17 ⟨some 122, _, _, _, _, _⟩ rfl (by assumption) ?_
                  try simp only [Act.put, sA, sB, sC]
                  refine skH 18 ⟨some 123, _, _, _, _, _⟩ rfl (by assumption) ?_
                  try simp only [Act.put, sA, sB, sC]
                  refine skH 19 ⟨some 124, _, _, _, _, _⟩ rfl (by assumption) ?_
                  try simp only [Act.put, sA, sB, sC]
                  refine skH 20 ⟨some 125, _, _, _, _, _⟩ rfl (by assumption) ?_
                  try simp only [Act.put, sA, sB, sC]
                  refine skH 21 ⟨some 126, _, _, _, _, _⟩ rfl (by assumption) ?_
                  try simp only [Act.put, sA, sB, sC]
                  refine tkH 22 ⟨some 127, _, _, _, _, _⟩ ?_ rfl ?_ (by assumption) ?_
                  rotate_left
                  · (intro w hSw; (try dsimp only at hSw); go_simp; all_goals with_reducible rfl)
                  try simp only [Act.put, sA, sB, sC]
                  refine tkH 23 ⟨some 13, _, _, _, _, _⟩ ?_ rfl ?_ (by assumption) ?_
                  rotate_left
                  · (intro w hSw; (try dsimp only at hSw); go_simp; all_goals with_reducible rfl)
                  try simp only [Act.put, sA, sB, sC]
                  refine wpAnyH_done (by kernel_rfl) ?_ _
                  have hTe := hT1
                  obtain ⟨ue, rfl⟩ : ∃ z, z = y1 := ⟨_, rfl⟩
                  clear hHeld HS
                  have PBe := Lib.hid (PB9.out.below hTe)
                  have RBe := Lib.hid (RB9.out.below hTe)
                  have HCe := Lib.hid (HC9.out.below hTe)
                  have HBe := Lib.hid (hBc.trans (hTe.mono hBc.size))
                  clear PB9 RB9 HC9 hBc XB hTe
                  go_wp2
                  go_roundw
                  case rel => exact ⟨k + 1, by omega, by go_num, PBe, RBe, HCe, HBe⟩
                  case measure => simp [intOf]; omega
                | true =>
                  have hq : bj = !bw2 := by have h := hLI.out; revert h; cases bj <;> cases bw2 <;> simp
                  subst hq
                  clear hLI
                  go_upto_region 22 with (fail)
                  refine wp_region_held_drew (S := (fun w' => w'.cell? ⟨w.heap.size, 0, none⟩ = some (.string nm) ∧ w'.cell? ⟨w.heap.size, 1, none⟩ = some (.int .i64 s) ∧ w'.cell? ⟨w.heap.size, 2, none⟩ = some (.slice (some ⟨gb, gf, none⟩) gn gc) ∧ w'.cell? ⟨w.heap.size, 3, none⟩ = some (.slice (some ⟨lb, lo, none⟩) dn dc) ∧ w'.cell? ⟨b7, 0, none⟩ = some (.int .i64 x9) ∧ w'.cell? ⟨b7, 1, none⟩ = some (.int .i64 y9) ∧ w'.cell? ⟨lb, lo + k * 3 + 1, none⟩ = some (.int .i64 yl.d))) (by kernel_rfl) (HS.out _ (Below.refl _ _).drew) (fun hHeld => ?_)
                  have hT0 : Below wc.heap.size wc wc.drew := (Below.refl _ _).drew
                  generalize hdr : wc.drew = y0 at *
                  clear hdr
                  refine tkH 0 ⟨some 105, _, _, _, _, _⟩ ?_ rfl ?_ (by assumption) ?_
                  rotate_left
                  · (intro w hSw; (try dsimp only at hSw); go_simp; all_goals with_reducible rfl)
                  try simp only [Act.put, sA, sB, sC]
                  refine tkH 1 ⟨some 106, _, _, _, _, _⟩ ?_ rfl ?_ (by assumption) ?_
                  rotate_left
                  · (intro w hSw; (try dsimp only at hSw); go_simp; all_goals with_reducible rfl)
                  try simp only [Act.put, sA, sB, sC]
                  refine tkH 2 ⟨some 107, _, _, _, _, _⟩ ?_ rfl ?_ (by assumption) ?_
                  rotate_left
                  · (intro w hSw; (try dsimp only at hSw); go_simp; all_goals with_reducible rfl)
                  try simp only [Act.put, sA, sB, sC]
                  refine tkH 3 ⟨some 108, _, _, _, _, _⟩ ?_ rfl ?_ (by assumption) ?_
                  rotate_left
                  · (intro w hSw; (try dsimp only at hSw); go_simp; all_goals with_reducible rfl)
                  try simp only [Act.put, sA, sB, sC]
                  refine tkH 4 ⟨some 109, _, _, _, _, _⟩ ?_ rfl ?_ (by assumption) ?_
                  rotate_left
                  · (intro w hSw; (try dsimp only at hSw); go_simp; all_goals with_reducible rfl)
                  try simp only [Act.put, sA, sB, sC]
                  refine tkH 5 ⟨some 110, _, _, _, _, _⟩ ?_ rfl ?_ (by assumption) ?_
                  rotate_left
                  · (intro w hSw; (try dsimp only at hSw); go_simp; all_goals with_reducible rfl)
                  try simp only [Act.put, sA, sB, sC]
                  refine tkH 6 ⟨some 111, _, _, _, _, _⟩ ?_ rfl ?_ (by assumption) ?_
                  rotate_left
                  · (intro w hSw; (try dsimp only at hSw); go_simp; all_goals with_reducible rfl)
                  try simp only [Act.put, sA, sB, sC]
                  refine tkH 7 ⟨some 112, _, _, _, _, _⟩ ?_ rfl ?_ (by assumption) ?_
                  rotate_left
                  · (intro w hSw; (try dsimp only at hSw); go_simp; all_goals with_reducible rfl)
                  try simp only [Act.put, sA, sB, sC]
                  refine wpAnyH_ready (rs := [8]) (by kernel_rfl) (by simp) ?_
                  refine AllReadyH.cons rfl (fun K hK => ?_) (AllReadyH.nil)
                  go_simp
                  refine (wB _ _ _ true _ hb1).mono ?_
                  rintro e y1 ⟨rfl, hby0⟩
                  have hT1 : Below wc.heap.size wc y1 := hT0.trans (hby0.mono hT0.size)
                  clear hby0
                  go_wp2_with fail
                  refine hK.out _ _ (HS.out _ hT1) (fun hHeld => ?_)
                  clear hK K
                  try simp only [Act.put, sA, sB, sC]
                  refine tkH 9 ⟨some 114, _, _, _, _, _⟩ ?_ rfl ?_ (by assumption) ?_
                  rotate_left
                  · (intro w hSw; (try dsimp only at hSw); go_simp; all_goals with_reducible rfl)
                  try simp only [Act.put, sA, sB, sC]
                  refine tkH 10 ⟨some 115, _, _, _, _, _⟩ ?_ rfl ?_ (by assumption) ?_
                  rotate_left
                  · (intro w hSw; (try dsimp only at hSw); go_simp; all_goals with_reducible rfl)
                  try simp only [Act.put, sA, sB, sC]
                  refine tkH 11 ⟨some 116, _, _, _, _, _⟩ ?_ rfl ?_ (by assumption) ?_
                  rotate_left
                  · (intro w hSw; (try dsimp only at hSw); go_simp; all_goals with_reducible rfl)
                  try simp only [Act.put, sA, sB, sC]
                  refine tkH 12 ⟨some 117, _, _, _, _, _⟩ ?_ rfl ?_ (by assumption) ?_
                  rotate_left
                  · (intro w hSw; (try dsimp only at hSw); go_simp; all_goals with_reducible rfl)
                  try simp only [Act.put, sA, sB, sC]
                  refine tkH 13 ⟨some 118, _, _, _, _, _⟩ ?_ rfl ?_ (by assumption) ?_
                  rotate_left
                  · (intro w hSw; (try dsimp only at hSw); go_simp; all_goals with_reducible rfl)
                  try simp only [Act.put, sA, sB, sC]
                  refine tkH 14 ⟨some 119, _, _, _, _, _⟩ ?_ rfl ?_ (by assumption) ?_
                  rotate_left
                  · (intro w hSw; (try dsimp only at hSw); go_simp; all_goals with_reducible rfl)
                  try simp only [Act.put, sA, sB, sC]
                  refine tkH 15 ⟨some 120, _, _, _, _, _⟩ ?_ rfl ?_ (by assumption) ?_
                  rotate_left
                  · (intro w hSw; (try dsimp only at hSw); go_simp; all_goals with_reducible rfl)
                  try simp only [Act.put, sA, sB, sC]
                  refine tkH 16 ⟨some 121, _, _, _, _, _⟩ ?_ rfl ?_ (by assumption) ?_
                  rotate_left
                  · (intro w hSw; (try dsimp only at hSw); go_simp; all_goals with_reducible rfl)
                  try simp only [Act.put, sA, sB, sC]
                  refine tkH 17 ⟨some 122, _, _, _, _, _⟩ ?_ rfl ?_ (by assumption) ?_
                  rotate_left
                  · (intro w hSw; (try dsimp only at hSw); go_simp; all_goals with_reducible rfl)
                  try simp only [Act.put, sA, sB, sC]
                  refine tkH 18 ⟨some 123, _, _, _, _, _⟩ ?_ rfl ?_ (by assumption) ?_
                  rotate_left
                  · (intro w hSw; (try dsimp only at hSw); go_simp; all_goals with_reducible rfl)
                  try simp only [Act.put, sA, sB, sC]
                  refine tkH 19 ⟨some 124, _, _, _, _, _⟩ ?_ rfl ?_ (by assumption) ?_
                  rotate_left
                  · (intro w hSw; (try dsimp only at hSw); go_simp; all_goals with_reducible rfl)
                  try simp only [Act.put, sA, sB, sC]
                  refine tkH 20 ⟨some 125, _, _, _, _, _⟩ ?_ rfl ?_ (by assumption) ?_
                  rotate_left
                  · (intro w hSw; (try dsimp only at hSw); go_simp; all_goals with_reducible rfl)
                  try simp only [Act.put, sA, sB, sC]
                  refine wpAnyH_ready (rs := [21]) (by kernel_rfl) (by simp) ?_
                  refine AllReadyH.cons rfl (fun K hK => ?_) (AllReadyH.nil)
                  go_simp
                  refine (wB _ _ _ bw2 _ hb2).mono ?_
                  rintro e y2 ⟨rfl, hby1⟩
                  have hT2 : Below wc.heap.size wc y2 := hT1.trans (hby1.mono hT1.size)
                  clear hby1
                  go_wp2_with fail
                  refine hK.out _ _ (HS.out _ hT2) (fun hHeld => ?_)
                  clear hK K
                  try simp only [Act.put, sA, sB, sC]
                  refine tkH 22 ⟨some 127, _, _, _, _, _⟩ ?_ rfl ?_ (by assumption) ?_
                  rotate_left
                  · (intro w hSw; (try dsimp only at hSw); go_simp; all_goals with_reducible rfl)
                  try simp only [Act.put, sA, sB, sC]
                  refine tkH 23 ⟨some 13, _, _, _, _, _⟩ ?_ rfl ?_ (by assumption) ?_
                  rotate_left
                  · (intro w hSw; (try dsimp only at hSw); go_simp; all_goals with_reducible rfl)
                  try simp only [Act.put, sA, sB, sC]
                  refine wpAnyH_done (by kernel_rfl) ?_ _
                  have hTe := hT2
                  obtain ⟨ue, rfl⟩ : ∃ z, z = y2 := ⟨_, rfl⟩
                  clear hHeld HS
                  cases bw2 with
                  | false =>
                    have PBe := Lib.hid (PB9.out.below hTe)
                    have RBe := Lib.hid (RB9.out.below hTe)
                    have HCe := Lib.hid (HC9.out.below hTe)
                    have HBe := Lib.hid (hBc.trans (hTe.mono hBc.size))
                    clear PB9 RB9 HC9 hBc XB hTe
                    go_wp2
                    go_roundw
                    case rel => exact ⟨k + 1, by omega, by go_num, PBe, RBe, HCe, HBe⟩
                    case measure => simp [intOf]; omega
                  | true =>
                    have PBe := Lib.hid (PB9.out.below hTe)
                    have RBe := Lib.hid (RB9.out.below hTe)
                    have HCe := Lib.hid (HC9.out.below hTe)
                    have HBe := Lib.hid (hBc.trans (hTe.mono hBc.size))
                    clear PB9 RB9 HC9 hBc XB hTe
                    go_wp2
                    go_roundw
                    case rel => exact ⟨k + 1, by omega, by go_num, PBe, RBe, HCe, HBe⟩
                    case measure => simp [intOf]; omega
              · have hq : bj = true := by have h := hLI.out; revert h; cases bj <;> simp
                subst hq
                clear hLI
                go_upto_region 22 with (fail)
                refine wp_region_held_drew (S := (fun w' => w'.cell? ⟨w.heap.size, 0, none⟩ = some (.string nm) ∧ w'.cell? ⟨w.heap.size, 1, none⟩ = some (.int .i64 s) ∧ w'.cell? ⟨w.heap.size, 2, none⟩ = some (.slice (some ⟨gb, gf, none⟩) gn gc) ∧ w'.cell? ⟨w.heap.size, 3, none⟩ = some (.slice (some ⟨lb, lo, none⟩) dn dc) ∧ w'.cell? ⟨b7, 0, none⟩ = some (.int .i64 x9) ∧ w'.cell? ⟨b7, 1, none⟩ = some (.int .i64 y9) ∧ w'.cell? ⟨lb, lo + k * 3 + 1, none⟩ = some (.int .i64 yl.d))) (by kernel_rfl) (HS.out _ (Below.refl _ _).drew) (fun hHeld => ?_)
                have hT0 : Below wc.heap.size wc wc.drew := (Below.refl _ _).drew
                generalize hdr : wc.drew = y0 at *
                clear hdr
                refine tkH 0 ⟨some 105, _, _, _, _, _⟩ ?_ rfl ?_ (by assumption) ?_
                rotate_left
                · (intro w hSw; (try dsimp only at hSw); go_simp; all_goals with_reducible rfl)
                try simp only [Act.put, sA, sB, sC]
                refine tkH 1 ⟨some 106, _, _, _, _, _⟩ ?_ rfl ?_ (by assumption) ?_
                rotate_left
                · (intro w hSw; (try dsimp only at hSw); go_simp; all_goals with_reducible rfl)
                try simp only [Act.put, sA, sB, sC]
                refine tkH 2 ⟨some 107, _, _, _, _, _⟩ ?_ rfl ?_ (by assumption) ?_
                rotate_left
                · (intro w hSw; (try dsimp only at hSw); go_simp; all_goals with_reducible rfl)
                try simp only [Act.put, sA, sB, sC]
                refine skH 3 ⟨some 108, _, _, _, _, _⟩ rfl (by assumption) ?_
                try simp only [Act.put, sA, sB, sC]
                refine skH 4 ⟨some 109, _, _, _, _, _⟩ rfl (by assumption) ?_
                try simp only [Act.put, sA, sB, sC]
                refine skH 5 ⟨some 110, _, _, _, _, _⟩ rfl (by assumption) ?_
                try simp only [Act.put, sA, sB, sC]
                refine skH 6 ⟨some 111, _, _, _, _, _⟩ rfl (by assumption) ?_
                try simp only [Act.put, sA, sB, sC]
                refine skH 7 ⟨some 112, _, _, _, _, _⟩ rfl (by assumption) ?_
                try simp only [Act.put, sA, sB, sC]
                refine skH 8 ⟨some 113, _, _, _, _, _⟩ rfl (by assumption) ?_
                try simp only [Act.put, sA, sB, sC]
                refine tkH 9 ⟨some 114, _, _, _, _, _⟩ ?_ rfl ?_ (by assumption) ?_
                rotate_left
                · (intro w hSw; (try dsimp only at hSw); go_simp; all_goals with_reducible rfl)
                try simp only [Act.put, sA, sB, sC]
                refine tkH 10 ⟨some 115, _, _, _, _, _⟩ ?_ rfl ?_ (by assumption) ?_
                rotate_left
                · (intro w hSw; (try dsimp only at hSw); go_simp; all_goals with_reducible rfl)
                try simp only [Act.put, sA, sB, sC]
                refine skH 11 ⟨some 116, _, _, _, _, _⟩ rfl (by assumption) ?_
                try simp only [Act.put, sA, sB, sC]
                refine skH 12 ⟨some 117, _, _, _, _, _⟩ rfl (by assumption) ?_
                try simp only [Act.put, sA, sB, sC]
                refine skH 13 ⟨some 118, _, _, _, _, _⟩ rfl (by assumption) ?_
                try simp only [Act.put, sA, sB, sC]
                refine skH 14 ⟨some 119, _, _, _, _, _⟩ rfl (by assumption) ?_
                try simp only [Act.put, sA, sB, sC]
                refine skH 15 ⟨some 120, _, _, _, _, _⟩ rfl (by assumption) ?_
                try simp only [Act.put, sA, sB, sC]
                refine skH 16 ⟨some 121, _, _, _, _, _⟩ rfl (by assumption) ?_
                try simp only [Act.put, sA, sB, sC]
                refine skH 17 ⟨some 122, _, _, _, _, _⟩ rfl (by assumption) ?_
                try simp only [Act.put, sA, sB, sC]
                refine skH 18 ⟨some 123, _, _, _, _, _⟩ rfl (by assumption) ?_
                try simp only [Act.put, sA, sB, sC]
                refine skH 19 ⟨some 124, _, _, _, _, _⟩ rfl (by assumption) ?_
                try simp only [Act.put, sA, sB, sC]
                refine skH 20 ⟨some 125, _, _, _, _, _⟩ rfl (by assumption) ?_
                try simp only [Act.put, sA, sB, sC]
                refine skH 21 ⟨some 126, _, _, _, _, _⟩ rfl (by assumption) ?_
                try simp only [Act.put, sA, sB, sC]
                refine tkH 22 ⟨some 127, _, _, _, _, _⟩ ?_ rfl ?_ (by assumption) ?_
                rotate_left
                · (intro w hSw; (try dsimp only at hSw); go_simp; all_goals with_reducible rfl)
                try simp only [Act.put, sA, sB, sC]
                refine tkH 23 ⟨some 13, _, _, _, _, _⟩ ?_ rfl ?_ (by assumption) ?_
                rotate_left
                · (intro w hSw; (try dsimp only at hSw); go_simp; all_goals with_reducible rfl)
                try simp only [Act.put, sA, sB, sC]
                refine wpAnyH_done (by kernel_rfl) ?_ _
                have hTe := hT0
                obtain ⟨ue, rfl⟩ : ∃ z, z = y0 := ⟨_, rfl⟩
                clear hHeld HS
                have PBe := Lib.hid (PB9.out.below hTe)
                have RBe := Lib.hid (RB9.out.below hTe)
                have HCe := Lib.hid (HC9.out.below hTe)
                have HBe := Lib.hid (hBc.trans (hTe.mono hBc.size))
                clear PB9 RB9 HC9 hBc XB hTe
                go_wp2
                go_roundw
                case rel => exact ⟨k + 1, by omega, by go_num, PBe, RBe, HCe, HBe⟩
                case measure => simp [intOf]; omega
          · obtain ⟨q, hqq⟩ : ∃ q : Nat, Hid (k = q + 1) := ⟨k - 1, Lib.hid (by omega)⟩
            have hq : k - 1 < D.length := by omega
            have hqk : k - 1 = q := by have := hqq.out; omega
            have p1 := (le_at hDR hq).2.1
            have hbp : D[k - 1].d = yl.bd := by
              rw [← hyy.out]
              show _ = (ptK D k).d
              unfold ptK
              rw [if_neg hk0, getD_leE hq]
            rw [hbp, hqk] at p1
            have p1' := (hB.cell (p := ⟨lb, lo + q * 3 + 1, none⟩) hll).trans p1
            have h0 : (0 : Int) < (k : Int) := by omega
            have h0n : 0 < k := by omega
            have h0d : decide (0 < k) = true := by simpa using h0n
            have wq : IntKind.i64.wrap ((k : Int) - 1) = (q : Int) := by rw [IntWalk.i64_in _ (by omega)]; have := hqq.out; omega
            have kq1 : (q : Int) < (dn : Int) := by have := hqq.out; omega
            have kq0 : ¬ (q : Int) < 0 := by omega
            have hq0 := Lib.hid hk0
            clear hDR hk0 hq hqk hbp p1
            go_upto_region 19 with (fail)
            go_cut [11, 12] from 81 (fun s11 s12 wx => ∃ b7 : Nat, s11 = .pointer (some ⟨b7, 0, none⟩) ∧ s12 = .int .i64 z9 ∧ Hid (BlkF wx w.heap.size b7 [.int .i64 x9, .int .i64 y9]) ∧ Hid (BlkF wx w.heap.size w.heap.size [.string nm, .int .i64 s, .slice (some ⟨gb, gf, none⟩) gn gc, .slice (some ⟨lb, lo, none⟩) dn dc]) ∧ Hid (BlkF wx w.heap.size (w.heap.size + 1) [.slice AT tn tc, .int .i64 r.a, .int .i64 r.b, .int .i64 r.nc, .int .i64 r.dn, .int .i64 r.br, .int .i64 r.em, .int .i64 r.pa, .int .i64 r.sc]) ∧ Hid (SlRows p2V 2 wx C9 L) ∧ Hid (Below w.heap.size w wx))
            case first =>
              have HS : Hid (∀ y, Below wr.heap.size wr y → y.cell? ⟨w.heap.size, 0, none⟩ = some (.string nm) ∧ y.cell? ⟨w.heap.size, 1, none⟩ = some (.int .i64 s) ∧ y.cell? ⟨w.heap.size, 2, none⟩ = some (.slice (some ⟨gb, gf, none⟩) gn gc) ∧ y.cell? ⟨w.heap.size, 3, none⟩ = some (.slice (some ⟨lb, lo, none⟩) dn dc) ∧ y.cell? ⟨w.heap.size + 1, 0, none⟩ = some (.slice AT tn tc) ∧ y.cell? ⟨w.heap.size + 1, 1, none⟩ = some (.int .i64 r.a) ∧ y.cell? ⟨w.heap.size + 1, 2, none⟩ = some (.int .i64 r.b) ∧ y.cell? ⟨w.heap.size + 1, 3, none⟩ = some (.int .i64 r.nc) ∧ y.cell? ⟨w.heap.size + 1, 4, none⟩ = some (.int .i64 r.dn) ∧ y.cell? ⟨w.heap.size + 1, 5, none⟩ = some (.int .i64 r.br) ∧ y.cell? ⟨w.heap.size + 1, 6, none⟩ = some (.int .i64 r.em) ∧ y.cell? ⟨w.heap.size + 1, 7, none⟩ = some (.int .i64 r.pa) ∧ y.cell? ⟨w.heap.size + 1, 8, none⟩ = some (.int .i64 r.sc) ∧ y.cell? ⟨lb, lo + k * 3 + 2, none⟩ = some (.int .i64 (gk : Int)) ∧ y.cell? ⟨gb, gf + gk * 2, none⟩ = some (.int .i64 yl.o) ∧ y.cell? ⟨gb, gf + gk * 2 + 1, none⟩ = some (.int .i64 yl.h)) := Lib.hid fun y hy => ⟨(hy.cell (p := ⟨w.heap.size, 0, none⟩) lPB).trans c0, (hy.cell (p := ⟨w.heap.size, 1, none⟩) lPB).trans c1, (hy.cell (p := ⟨w.heap.size, 2, none⟩) lPB).trans c2, (hy.cell (p := ⟨w.heap.size, 3, none⟩) lPB).trans c3, (hy.cell (p := ⟨w.heap.size + 1, 0, none⟩) lRB).trans r0, (hy.cell (p := ⟨w.heap.size + 1, 1, none⟩) lRB).trans r1, (hy.cell (p := ⟨w.heap.size + 1, 2, none⟩) lRB).trans r2, (hy.cell (p := ⟨w.heap.size + 1, 3, none⟩) lRB).trans r3, (hy.cell (p := ⟨w.heap.size + 1, 4, none⟩) lRB).trans r4, (hy.cell (p := ⟨w.heap.size + 1, 5, none⟩) lRB).trans r5, (hy.cell (p := ⟨w.heap.size + 1, 6, none⟩) lRB).trans r6, (hy.cell (p := ⟨w.heap.size + 1, 7, none⟩) lRB).trans r7, (hy.cell (p := ⟨w.heap.size + 1, 8, none⟩) lRB).trans r8, (hy.cell (p := ⟨lb, lo + k * 3 + 2, none⟩) hll2).trans f2', (hy.cell (p := ⟨gb, gf + gk * 2, none⟩) hlg2).trans g0', (hy.cell (p := ⟨gb, gf + gk * 2 + 1, none⟩) hlg2).trans g1'⟩
              clear c0 c1 c2 r0 r1 r2 r3 r4 r5 r6 r7 r8 f2' g0' g1'
              refine wp_region_held_drew (S := (fun w' => w'.cell? ⟨w.heap.size, 0, none⟩ = some (.string nm) ∧ w'.cell? ⟨w.heap.size, 1, none⟩ = some (.int .i64 s) ∧ w'.cell? ⟨w.heap.size, 2, none⟩ = some (.slice (some ⟨gb, gf, none⟩) gn gc) ∧ w'.cell? ⟨w.heap.size, 3, none⟩ = some (.slice (some ⟨lb, lo, none⟩) dn dc) ∧ w'.cell? ⟨w.heap.size + 1, 0, none⟩ = some (.slice AT tn tc) ∧ w'.cell? ⟨w.heap.size + 1, 1, none⟩ = some (.int .i64 r.a) ∧ w'.cell? ⟨w.heap.size + 1, 2, none⟩ = some (.int .i64 r.b) ∧ w'.cell? ⟨w.heap.size + 1, 3, none⟩ = some (.int .i64 r.nc) ∧ w'.cell? ⟨w.heap.size + 1, 4, none⟩ = some (.int .i64 r.dn) ∧ w'.cell? ⟨w.heap.size + 1, 5, none⟩ = some (.int .i64 r.br) ∧ w'.cell? ⟨w.heap.size + 1, 6, none⟩ = some (.int .i64 r.em) ∧ w'.cell? ⟨w.heap.size + 1, 7, none⟩ = some (.int .i64 r.pa) ∧ w'.cell? ⟨w.heap.size + 1, 8, none⟩ = some (.int .i64 r.sc) ∧ w'.cell? ⟨lb, lo + k * 3 + 2, none⟩ = some (.int .i64 (gk : Int)) ∧ w'.cell? ⟨gb, gf + gk * 2, none⟩ = some (.int .i64 yl.o) ∧ w'.cell? ⟨gb, gf + gk * 2 + 1, none⟩ = some (.int .i64 yl.h))) (by kernel_rfl) (HS.out _ (Below.refl _ _).drew) (fun hHeld => ?_)
              have hT0 : Below wr.heap.size wr wr.drew := (Below.refl _ _).drew
              generalize hdr : wr.drew = y0 at *
              clear hdr
              refine tkH 0 ⟨some 82, _, _, _, _, _⟩ ?_ rfl ?_ (by assumption) ?_
              rotate_left
              · (intro w hSw; (try dsimp only at hSw); go_simp; all_goals with_reducible rfl)
              try simp only [Act.put, sA, sB, sC]
              refine tkH 1 ⟨some 83, _, _, _, _, _⟩ ?_ rfl ?_ (by assumption) ?_
              rotate_left
              · (intro w hSw; (try dsimp only at hSw); go_simp; all_goals with_reducible rfl)
              try simp only [Act.put, sA, sB, sC]
              refine tkH 2 ⟨some 84, _, _, _, _, _⟩ ?_ rfl ?_ (by assumption) ?_
              rotate_left
              · (intro w hSw; (try dsimp only at hSw); go_simp; all_goals with_reducible rfl)
              try simp only [Act.put, sA, sB, sC]
              refine tkH 3 ⟨some 85, _, _, _, _, _⟩ ?_ rfl ?_ (by assumption) ?_
              rotate_left
              · (intro w hSw; (try dsimp only at hSw); go_simp; all_goals with_reducible rfl)
              try simp only [Act.put, sA, sB, sC]
              refine tkH 4 ⟨some 86, _, _, _, _, _⟩ ?_ rfl ?_ (by assumption) ?_
              rotate_left
              · (intro w hSw; (try dsimp only at hSw); go_simp; all_goals with_reducible rfl)
              try simp only [Act.put, sA, sB, sC]
              refine tkH 5 ⟨some 87, _, _, _, _, _⟩ ?_ rfl ?_ (by assumption) ?_
              rotate_left
              · (intro w hSw; (try dsimp only at hSw); go_simp; all_goals with_reducible rfl)
              try simp only [Act.put, sA, sB, sC]
              refine tkH 6 ⟨some 88, _, _, _, _, _⟩ ?_ rfl ?_ (by assumption) ?_
              rotate_left
              · (intro w hSw; (try dsimp only at hSw); go_simp; all_goals with_reducible rfl)
              try simp only [Act.put, sA, sB, sC]
              refine tkH 7 ⟨some 89, _, _, _, _, _⟩ ?_ rfl ?_ (by assumption) ?_
              rotate_left
              · (intro w hSw; (try dsimp only at hSw); go_simp; all_goals with_reducible rfl)
              try simp only [Act.put, sA, sB, sC]
              refine tkH 8 ⟨some 90, _, _, _, _, _⟩ ?_ rfl ?_ (by assumption) ?_
              rotate_left
              · (intro w hSw; (try dsimp only at hSw); go_simp; all_goals with_reducible rfl)
              try simp only [Act.put, sA, sB, sC]
              refine tkH 9 ⟨some 91, _, _, _, _, _⟩ ?_ rfl ?_ (by assumption) ?_
              rotate_left
              · (intro w hSw; (try dsimp only at hSw); go_simp; all_goals with_reducible rfl)
              try simp only [Act.put, sA, sB, sC]
              refine tkH 10 ⟨some 92, _, _, _, _, _⟩ ?_ rfl ?_ (by assumption) ?_
              rotate_left
              · (intro w hSw; (try dsimp only at hSw); go_simp; all_goals with_reducible rfl)
              try simp only [Act.put, sA, sB, sC]
              refine tkH 11 ⟨some 93, _, _, _, _, _⟩ ?_ rfl ?_ (by assumption) ?_
              rotate_left
              · (intro w hSw; (try dsimp only at hSw); go_simp; all_goals with_reducible rfl)
              try simp only [Act.put, sA, sB, sC]
              refine tkH 12 ⟨some 94, _, _, _, _, _⟩ ?_ rfl ?_ (by assumption) ?_
              rotate_left
              · (intro w hSw; (try dsimp only at hSw); go_simp; all_goals with_reducible rfl)
              try simp only [Act.put, sA, sB, sC]
              refine wpAnyH_ready (rs := [13, 18]) (by kernel_rfl) (by simp) ?_
              refine AllReadyH.cons rfl (fun K hK => ?_) (AllReadyH.cons rfl (fun K hK => ?_) (AllReadyH.nil))
              · skip
                go_simp
                refine (copyR_is T r AT tn tc _ htn ht6 (Lib.hid (hT.out.below (hB.trans (hT0.mono hB.size)))) CT).mono ?_
                rintro e y1 ⟨AT2, ct2, rfl, hst, hby0⟩
                have hT1 : Below wr.heap.size wr y1 := hT0.trans (hby0.mono hT0.size)
                have HT2 := Lib.hid hst
                clear hst
                clear hby0
                go_wp2_with fail
                refine hK.out _ _ (HS.out _ hT1) (fun hHeld => ?_)
                clear hK K
                try simp only [Act.put, sA, sB, sC]
                refine wpAnyH_ready (rs := [14, 18]) (by kernel_rfl) (by simp) ?_
                refine AllReadyH.cons rfl (fun K hK => ?_) (AllReadyH.cons rfl (fun K hK => ?_) (AllReadyH.nil))
                · skip
                  go_simp
                  refine (HDP.out AT2 ct2 _ HT2).mono ?_
                  rintro e y2 ⟨rfl, hby1⟩
                  have hT2 : Below wr.heap.size wr y2 := hT1.trans (hby1.mono hT1.size)
                  replace HT2 := Lib.hid (HT2.out.below hby1)
                  clear hby1
                  go_wp2_with fail
                  refine hK.out _ _ (HS.out _ hT2) (fun hHeld => ?_)
                  clear hK K
                  try simp only [Act.put, sA, sB, sC]
                  refine tkH 15 ⟨some 81, _, _, _, _, _⟩ ?_ rfl ?_ (by assumption) ?_
                  rotate_left
                  · (intro w hSw; (try dsimp only at hSw); go_simp; all_goals with_reducible rfl)
                  try simp only [Act.put, sA, sB, sC]
                  refine tkH 16 ⟨some 97, _, _, _, _, _⟩ ?_ rfl ?_ (by assumption) ?_
                  rotate_left
                  · (intro w hSw; (try dsimp only at hSw); go_simp; all_goals with_reducible rfl)
                  try simp only [Act.put, sA, sB, sC]
                  refine tkH 17 ⟨some 98, _, _, _, _, _⟩ ?_ rfl ?_ (by assumption) ?_
                  rotate_left
                  · (intro w hSw; (try dsimp only at hSw); go_simp; all_goals with_reducible rfl)
                  try simp only [Act.put, sA, sB, sC]
                  refine wpAnyH_ready (rs := [18]) (by kernel_rfl) (by simp) ?_
                  refine AllReadyH.cons rfl (fun K hK => ?_) (AllReadyH.nil)
                  go_simp
                  go_wp2_with fail
                  refine hK.out _ _ (HS.out _ (hT2.alloc hT2.size _)) (fun hHeld => ?_)
                  clear hK K
                  try simp only [Act.put, sA, sB, sC]
                  have HNb7 := Lib.hid (BlkF.made (B := wr.heap.size) y2 [.int .i64 0, .int .i64 0] 47 hT2.size)
                  have hby2 : Below y2.heap.size y2 (y2.alloc (.cells #[.int .i64 0, .int .i64 0] 47)) := (Below.refl _ _).alloc (Nat.le_refl _) _
                  replace HT2 := Lib.hid (HT2.out.below hby2)
                  have hnb7 : wr.heap.size ≤ y2.heap.size := hT2.size
                  have exb7 : ∃ x, y2.heap.size = x := ⟨_, rfl⟩
                  generalize hq2 : y2.alloc (.cells #[.int .i64 0, .int .i64 0] 47) = y3 at *
                  have hT3 : Below wr.heap.size wr y3 := hT2.trans (hby2.mono hT2.size)
                  obtain ⟨b7, eb7⟩ := exb7
                  rw [eb7] at HNb7 hnb7 ⊢
                  clear hby2 hq2
                  refine wpAnyH_ready (rs := [19]) (by kernel_rfl) (by simp) ?_
                  refine AllReadyH.cons rfl (fun K hK => ?_) (AllReadyH.nil)
                  have HBs : Hid (BlkF ((y3.setCell ⟨b7, 0, none⟩ (.int .i64 x9)).setCell ⟨b7, 1, none⟩ (.int .i64 y9)) wr.heap.size b7 [.int .i64 x9, .int .i64 y9]) := Lib.hid (BlkF.st (vs' := [.int .i64 x9, .int .i64 y9]) HNb7.out rfl)
                  have hTs : Below wr.heap.size wr ((y3.setCell ⟨b7, 0, none⟩ (.int .i64 x9)).setCell ⟨b7, 1, none⟩ (.int .i64 y9)) := stW_below HNb7.out.ge [.int .i64 x9, .int .i64 y9] y3 0 hT3
                  obtain ⟨u_0, u_1⟩ := b2 HNb7.out
                  have u_f := HNb7.out.fz
                  go_simp
                  go_wp2_with fail
                  refine hK.out _ _ (HS.out _ hTs) (fun hHeld => ?_)
                  clear hK K
                  try simp only [Act.put, sA, sB, sC]
                  clear u_f u_0 u_1
                  clear HNb7
                  generalize hs3 : ((y3.setCell ⟨b7, 0, none⟩ (.int .i64 x9)).setCell ⟨b7, 1, none⟩ (.int .i64 y9)) = y4 at *
                  clear hs3
                  have hT4 := hTs
                  clear hTs
                  have HNb7 := HBs
                  clear HBs
                  refine tkH 20 ⟨some 12, _, _, _, _, _⟩ ?_ rfl ?_ (by assumption) ?_
                  rotate_left
                  · (intro w hSw; (try dsimp only at hSw); go_simp; all_goals with_reducible rfl)
                  try simp only [Act.put, sA, sB, sC]
                  refine wpAnyH_done (by kernel_rfl) ?_ _
                  go_wp2_with fail
                  go_meet
                  exact ⟨b7, rfl, rfl, Lib.hid (HNb7.out.lowerW hB.size), Lib.hid (PB.out.below hT4), Lib.hid (RB.out.below hT4), Lib.hid (HC.out.below hT4), Lib.hid (hB.trans (hT4.mono hB.size))⟩
                · skip
                  go_simp
                  go_wp2_with fail
                  refine hK.out _ _ (HS.out _ (hT1.alloc hT1.size _)) (fun hHeld => ?_)
                  clear hK K
                  try simp only [Act.put, sA, sB, sC]
                  have HNb7 := Lib.hid (BlkF.made (B := wr.heap.size) y1 [.int .i64 0, .int .i64 0] 47 hT1.size)
                  have hby1 : Below y1.heap.size y1 (y1.alloc (.cells #[.int .i64 0, .int .i64 0] 47)) := (Below.refl _ _).alloc (Nat.le_refl _) _
                  replace HT2 := Lib.hid (HT2.out.below hby1)
                  have hnb7 : wr.heap.size ≤ y1.heap.size := hT1.size
                  have exb7 : ∃ x, y1.heap.size = x := ⟨_, rfl⟩
                  generalize hq1 : y1.alloc (.cells #[.int .i64 0, .int .i64 0] 47) = y2 at *
                  have hT2 : Below wr.heap.size wr y2 := hT1.trans (hby1.mono hT1.size)
                  obtain ⟨b7, eb7⟩ := exb7
                  rw [eb7] at HNb7 hnb7 ⊢
                  clear hby1 hq1
                  refine wpAnyH_ready (rs := [14]) (by kernel_rfl) (by simp) ?_
                  refine AllReadyH.cons rfl (fun K hK => ?_) (AllReadyH.nil)
                  go_simp
                  refine (HDP.out AT2 ct2 _ HT2).mono ?_
                  rintro e y3 ⟨rfl, hby2⟩
                  have hT3 : Below wr.heap.size wr y3 := hT2.trans (hby2.mono hT2.size)
                  replace HT2 := Lib.hid (HT2.out.below hby2)
                  replace HNb7 := Lib.hid (HNb7.out.below hby2)
                  clear hby2
                  go_wp2_with fail
                  refine hK.out _ _ (HS.out _ hT3) (fun hHeld => ?_)
                  clear hK K
                  try simp only [Act.put, sA, sB, sC]
                  refine tkH 15 ⟨some 81, _, _, _, _, _⟩ ?_ rfl ?_ (by assumption) ?_
                  rotate_left
                  · (intro w hSw; (try dsimp only at hSw); go_simp; all_goals with_reducible rfl)
                  try simp only [Act.put, sA, sB, sC]
                  refine tkH 16 ⟨some 97, _, _, _, _, _⟩ ?_ rfl ?_ (by assumption) ?_
                  rotate_left
                  · (intro w hSw; (try dsimp only at hSw); go_simp; all_goals with_reducible rfl)
                  try simp only [Act.put, sA, sB, sC]
                  refine tkH 17 ⟨some 98, _, _, _, _, _⟩ ?_ rfl ?_ (by assumption) ?_
                  rotate_left
                  · (intro w hSw; (try dsimp only at hSw); go_simp; all_goals with_reducible rfl)
                  try simp only [Act.put, sA, sB, sC]
                  refine wpAnyH_ready (rs := [19]) (by kernel_rfl) (by simp) ?_
                  refine AllReadyH.cons rfl (fun K hK => ?_) (AllReadyH.nil)
                  have HBs : Hid (BlkF ((y3.setCell ⟨b7, 0, none⟩ (.int .i64 x9)).setCell ⟨b7, 1, none⟩ (.int .i64 y9)) wr.heap.size b7 [.int .i64 x9, .int .i64 y9]) := Lib.hid (BlkF.st (vs' := [.int .i64 x9, .int .i64 y9]) HNb7.out rfl)
                  have hTs : Below wr.heap.size wr ((y3.setCell ⟨b7, 0, none⟩ (.int .i64 x9)).setCell ⟨b7, 1, none⟩ (.int .i64 y9)) := stW_below HNb7.out.ge [.int .i64 x9, .int .i64 y9] y3 0 hT3
                  obtain ⟨u_0, u_1⟩ := b2 HNb7.out
                  have u_f := HNb7.out.fz
                  go_simp
                  go_wp2_with fail
                  refine hK.out _ _ (HS.out _ hTs) (fun hHeld => ?_)
                  clear hK K
                  try simp only [Act.put, sA, sB, sC]
                  clear u_f u_0 u_1
                  clear HNb7
                  generalize hs3 : ((y3.setCell ⟨b7, 0, none⟩ (.int .i64 x9)).setCell ⟨b7, 1, none⟩ (.int .i64 y9)) = y4 at *
                  clear hs3
                  have hT4 := hTs
                  clear hTs
                  have HNb7 := HBs
                  clear HBs
                  refine tkH 20 ⟨some 12, _, _, _, _, _⟩ ?_ rfl ?_ (by assumption) ?_
                  rotate_left
                  · (intro w hSw; (try dsimp only at hSw); go_simp; all_goals with_reducible rfl)
                  try simp only [Act.put, sA, sB, sC]
                  refine wpAnyH_done (by kernel_rfl) ?_ _
                  go_wp2_with fail
                  go_meet
                  exact ⟨b7, rfl, rfl, Lib.hid (HNb7.out.lowerW hB.size), Lib.hid (PB.out.below hT4), Lib.hid (RB.out.below hT4), Lib.hid (HC.out.below hT4), Lib.hid (hB.trans (hT4.mono hB.size))⟩
              · skip
                go_simp
                go_wp2_with fail
                refine hK.out _ _ (HS.out _ (hT0.alloc hT0.size _)) (fun hHeld => ?_)
                clear hK K
                try simp only [Act.put, sA, sB, sC]
                have HNb7 := Lib.hid (BlkF.made (B := wr.heap.size) y0 [.int .i64 0, .int .i64 0] 47 hT0.size)
                have hby0 : Below y0.heap.size y0 (y0.alloc (.cells #[.int .i64 0, .int .i64 0] 47)) := (Below.refl _ _).alloc (Nat.le_refl _) _
                have hnb7 : wr.heap.size ≤ y0.heap.size := hT0.size
                have exb7 : ∃ x, y0.heap.size = x := ⟨_, rfl⟩
                generalize hq0 : y0.alloc (.cells #[.int .i64 0, .int .i64 0] 47) = y1 at *
                have hT1 : Below wr.heap.size wr y1 := hT0.trans (hby0.mono hT0.size)
                obtain ⟨b7, eb7⟩ := exb7
                rw [eb7] at HNb7 hnb7 ⊢
                clear hby0 hq0
                refine wpAnyH_ready (rs := [13]) (by kernel_rfl) (by simp) ?_
                refine AllReadyH.cons rfl (fun K hK => ?_) (AllReadyH.nil)
                go_simp
                refine (copyR_is T r AT tn tc _ htn ht6 (Lib.hid (hT.out.below (hB.trans (hT1.mono hB.size)))) CT).mono ?_
                rintro e y2 ⟨AT2, ct2, rfl, hst, hby1⟩
                have hT2 : Below wr.heap.size wr y2 := hT1.trans (hby1.mono hT1.size)
                replace HNb7 := Lib.hid (HNb7.out.below hby1)
                have HT2 := Lib.hid hst
                clear hst
                clear hby1
                go_wp2_with fail
                refine hK.out _ _ (HS.out _ hT2) (fun hHeld => ?_)
                clear hK K
                try simp only [Act.put, sA, sB, sC]
                refine wpAnyH_ready (rs := [14]) (by kernel_rfl) (by simp) ?_
                refine AllReadyH.cons rfl (fun K hK => ?_) (AllReadyH.nil)
                go_simp
                refine (HDP.out AT2 ct2 _ HT2).mono ?_
                rintro e y3 ⟨rfl, hby2⟩
                have hT3 : Below wr.heap.size wr y3 := hT2.trans (hby2.mono hT2.size)
                replace HNb7 := Lib.hid (HNb7.out.below hby2)
                replace HT2 := Lib.hid (HT2.out.below hby2)
                clear hby2
                go_wp2_with fail
                refine hK.out _ _ (HS.out _ hT3) (fun hHeld => ?_)
                clear hK K
                try simp only [Act.put, sA, sB, sC]
                refine tkH 15 ⟨some 81, _, _, _, _, _⟩ ?_ rfl ?_ (by assumption) ?_
                rotate_left
                · (intro w hSw; (try dsimp only at hSw); go_simp; all_goals with_reducible rfl)
                try simp only [Act.put, sA, sB, sC]
                refine tkH 16 ⟨some 97, _, _, _, _, _⟩ ?_ rfl ?_ (by assumption) ?_
                rotate_left
                · (intro w hSw; (try dsimp only at hSw); go_simp; all_goals with_reducible rfl)
                try simp only [Act.put, sA, sB, sC]
                refine tkH 17 ⟨some 98, _, _, _, _, _⟩ ?_ rfl ?_ (by assumption) ?_
                rotate_left
                · (intro w hSw; (try dsimp only at hSw); go_simp; all_goals with_reducible rfl)
                try simp only [Act.put, sA, sB, sC]
                refine wpAnyH_ready (rs := [19]) (by kernel_rfl) (by simp) ?_
                refine AllReadyH.cons rfl (fun K hK => ?_) (AllReadyH.nil)
                have HBs : Hid (BlkF ((y3.setCell ⟨b7, 0, none⟩ (.int .i64 x9)).setCell ⟨b7, 1, none⟩ (.int .i64 y9)) wr.heap.size b7 [.int .i64 x9, .int .i64 y9]) := Lib.hid (BlkF.st (vs' := [.int .i64 x9, .int .i64 y9]) HNb7.out rfl)
                have hTs : Below wr.heap.size wr ((y3.setCell ⟨b7, 0, none⟩ (.int .i64 x9)).setCell ⟨b7, 1, none⟩ (.int .i64 y9)) := stW_below HNb7.out.ge [.int .i64 x9, .int .i64 y9] y3 0 hT3
                obtain ⟨u_0, u_1⟩ := b2 HNb7.out
                have u_f := HNb7.out.fz
                go_simp
                go_wp2_with fail
                refine hK.out _ _ (HS.out _ hTs) (fun hHeld => ?_)
                clear hK K
                try simp only [Act.put, sA, sB, sC]
                clear u_f u_0 u_1
                clear HNb7
                generalize hs3 : ((y3.setCell ⟨b7, 0, none⟩ (.int .i64 x9)).setCell ⟨b7, 1, none⟩ (.int .i64 y9)) = y4 at *
                clear hs3
                have hT4 := hTs
                clear hTs
                have HNb7 := HBs
                clear HBs
                refine tkH 20 ⟨some 12, _, _, _, _, _⟩ ?_ rfl ?_ (by assumption) ?_
                rotate_left
                · (intro w hSw; (try dsimp only at hSw); go_simp; all_goals with_reducible rfl)
                try simp only [Act.put, sA, sB, sC]
                refine wpAnyH_done (by kernel_rfl) ?_ _
                go_wp2_with fail
                go_meet
                exact ⟨b7, rfl, rfl, Lib.hid (HNb7.out.lowerW hB.size), Lib.hid (PB.out.below hT4), Lib.hid (RB.out.below hT4), Lib.hid (HC.out.below hT4), Lib.hid (hB.trans (hT4.mono hB.size))⟩
            case rest =>
              obtain ⟨b7, rfl, rfl, XB, PB9, RB9, HC9, HB9⟩ := hcut
              have hBc := HB9.out
              have zbc := hBc.size
              obtain ⟨c0, c1, c2, c3⟩ := b4 PB9.out
              obtain ⟨x0, x1⟩ := b2 XB.out
              have lPB := PB9.out.lt
              have lXB := XB.out.lt
              have hll3 : lb < wc.heap.size := by omega
              have f1' := (hBc.cell (p := ⟨lb, lo + k * 3 + 1, none⟩) hll).trans f1
              obtain ⟨bw1, hb1⟩ : ∃ z, Hid (inB yl.bd x9 y9 = z) := ⟨_, Lib.hid rfl⟩
              obtain ⟨bw2, hb2⟩ : ∃ z, Hid (inB yl.d x9 y9 = z) := ⟨_, Lib.hid rfl⟩
              rw [hb1.out, hb2.out] at hLI
              have HS : Hid (∀ y, Below wc.heap.size wc y → y.cell? ⟨w.heap.size, 0, none⟩ = some (.string nm) ∧ y.cell? ⟨w.heap.size, 1, none⟩ = some (.int .i64 s) ∧ y.cell? ⟨w.heap.size, 2, none⟩ = some (.slice (some ⟨gb, gf, none⟩) gn gc) ∧ y.cell? ⟨w.heap.size, 3, none⟩ = some (.slice (some ⟨lb, lo, none⟩) dn dc) ∧ y.cell? ⟨b7, 0, none⟩ = some (.int .i64 x9) ∧ y.cell? ⟨b7, 1, none⟩ = some (.int .i64 y9) ∧ y.cell? ⟨lb, lo + k * 3 + 1, none⟩ = some (.int .i64 yl.d)) := Lib.hid fun y hy => ⟨(hy.cell (p := ⟨w.heap.size, 0, none⟩) lPB).trans c0, (hy.cell (p := ⟨w.heap.size, 1, none⟩) lPB).trans c1, (hy.cell (p := ⟨w.heap.size, 2, none⟩) lPB).trans c2, (hy.cell (p := ⟨w.heap.size, 3, none⟩) lPB).trans c3, (hy.cell (p := ⟨b7, 0, none⟩) lXB).trans x0, (hy.cell (p := ⟨b7, 1, none⟩) lXB).trans x1, (hy.cell (p := ⟨lb, lo + k * 3 + 1, none⟩) hll3).trans f1'⟩
              clear f1' x0 x1 c0 c1 c2 f1 HB9
              rcases hz12 with rfl | rfl
              · cases bw1 with
                | false =>
                  have hq : bj = true := by have h := hLI.out; revert h; cases bj <;> simp
                  subst hq
                  clear hLI
                  go_upto_region 22 with (fail)
                  refine wp_region_held_drew (S := (fun w' => w'.cell? ⟨w.heap.size, 0, none⟩ = some (.string nm) ∧ w'.cell? ⟨w.heap.size, 1, none⟩ = some (.int .i64 s) ∧ w'.cell? ⟨w.heap.size, 2, none⟩ = some (.slice (some ⟨gb, gf, none⟩) gn gc) ∧ w'.cell? ⟨w.heap.size, 3, none⟩ = some (.slice (some ⟨lb, lo, none⟩) dn dc) ∧ w'.cell? ⟨b7, 0, none⟩ = some (.int .i64 x9) ∧ w'.cell? ⟨b7, 1, none⟩ = some (.int .i64 y9) ∧ w'.cell? ⟨lb, lo + k * 3 + 1, none⟩ = some (.int .i64 yl.d))) (by kernel_rfl) (HS.out _ (Below.refl _ _).drew) (fun hHeld => ?_)
                  have hT0 : Below wc.heap.size wc wc.drew := (Below.refl _ _).drew
                  generalize hdr : wc.drew = y0 at *
                  clear hdr
                  refine tkH 0 ⟨some 105, _, _, _, _, _⟩ ?_ rfl ?_ (by assumption) ?_
                  rotate_left
                  · (intro w hSw; (try dsimp only at hSw); go_simp; all_goals with_reducible rfl)
                  try simp only [Act.put, sA, sB, sC]
                  refine tkH 1 ⟨some 106, _, _, _, _, _⟩ ?_ rfl ?_ (by assumption) ?_
                  rotate_left
                  · (intro w hSw; (try dsimp only at hSw); go_simp; all_goals with_reducible rfl)
                  try simp only [Act.put, sA, sB, sC]
                  refine tkH 2 ⟨some 107, _, _, _, _, _⟩ ?_ rfl ?_ (by assumption) ?_
                  rotate_left
                  · (intro w hSw; (try dsimp only at hSw); go_simp; all_goals with_reducible rfl)
                  try simp only [Act.put, sA, sB, sC]
                  refine tkH 3 ⟨some 108, _, _, _, _, _⟩ ?_ rfl ?_ (by assumption) ?_
                  rotate_left
                  · (intro w hSw; (try dsimp only at hSw); go_simp; all_goals with_reducible rfl)
                  try simp only [Act.put, sA, sB, sC]
                  refine tkH 4 ⟨some 109, _, _, _, _, _⟩ ?_ rfl ?_ (by assumption) ?_
                  rotate_left
                  · (intro w hSw; (try dsimp only at hSw); go_simp; all_goals with_reducible rfl)
                  try simp only [Act.put, sA, sB, sC]
                  refine tkH 5 ⟨some 110, _, _, _, _, _⟩ ?_ rfl ?_ (by assumption) ?_
                  rotate_left
                  · (intro w hSw; (try dsimp only at hSw); go_simp; all_goals with_reducible rfl)
                  try simp only [Act.put, sA, sB, sC]
                  refine tkH 6 ⟨some 111, _, _, _, _, _⟩ ?_ rfl ?_ (by assumption) ?_
                  rotate_left
                  · (intro w hSw; (try dsimp only at hSw); go_simp; all_goals with_reducible rfl)
                  try simp only [Act.put, sA, sB, sC]
                  refine tkH 7 ⟨some 112, _, _, _, _, _⟩ ?_ rfl ?_ (by assumption) ?_
                  rotate_left
                  · (intro w hSw; (try dsimp only at hSw); go_simp; all_goals with_reducible rfl)
                  try simp only [Act.put, sA, sB, sC]
                  refine wpAnyH_ready (rs := [8]) (by kernel_rfl) (by simp) ?_
                  refine AllReadyH.cons rfl (fun K hK => ?_) (AllReadyH.nil)
                  go_simp
                  refine (wB _ _ _ false _ hb1).mono ?_
                  rintro e y1 ⟨rfl, hby0⟩
                  have hT1 : Below wc.heap.size wc y1 := hT0.trans (hby0.mono hT0.size)
                  clear hby0
                  go_wp2_with fail
                  refine hK.out _ _ (HS.out _ hT1) (fun hHeld => ?_)
                  clear hK K
                  try simp only [Act.put, sA, sB, sC]
                  refine tkH 9 ⟨some 114, _, _, _, _, _⟩ ?_ rfl ?_ (by assumption) ?_
                  rotate_left
                  · (intro w hSw; (try dsimp only at hSw); go_simp; all_goals with_reducible rfl)
                  try simp only [Act.put, sA, sB, sC]
                  refine tkH 10 ⟨some 115, _, _, _, _, _⟩ ?_ rfl ?_ (by assumption) ?_
                  rotate_left
                  · (intro w hSw; (try dsimp only at hSw); go_simp; all_goals with_reducible rfl)
                  try simp only [Act.put, sA, sB, sC]
                  refine skH 11 ⟨some 116, _, _, _, _, _⟩ rfl (by assumption) ?_
                  try simp only [Act.put, sA, sB, sC]
                  refine skH 12 ⟨some 117, _, _, _, _, _⟩ rfl (by assumption) ?_
                  try simp only [Act.put, sA, sB, sC]
                  refine skH 13 ⟨some 118, _, _, _, _, _⟩ rfl (by assumption) ?_
                  try simp only [Act.put, sA, sB, sC]
                  refine skH 14 ⟨some 119, _, _, _, _, _⟩ rfl (by assumption) ?_
                  try simp only [Act.put, sA, sB, sC]
                  refine skH 15 ⟨some 120, _, _, _, _, _⟩ rfl (by assumption) ?_
                  try simp only [Act.put, sA, sB, sC]
                  refine skH 16 ⟨some 121, _, _, _, _, _⟩ rfl (by assumption) ?_
                  try simp only [Act.put, sA, sB, sC]
                  refine skH 17 ⟨some 122, _, _, _, _, _⟩ rfl (by assumption) ?_
                  try simp only [Act.put, sA, sB, sC]
                  refine skH 18 ⟨some 123, _, _, _, _, _⟩ rfl (by assumption) ?_
                  try simp only [Act.put, sA, sB, sC]
                  refine skH 19 ⟨some 124, _, _, _, _, _⟩ rfl (by assumption) ?_
                  try simp only [Act.put, sA, sB, sC]
                  refine skH 20 ⟨some 125, _, _, _, _, _⟩ rfl (by assumption) ?_
                  try simp only [Act.put, sA, sB, sC]
                  refine skH 21 ⟨some 126, _, _, _, _, _⟩ rfl (by assumption) ?_
                  try simp only [Act.put, sA, sB, sC]
                  refine tkH 22 ⟨some 127, _, _, _, _, _⟩ ?_ rfl ?_ (by assumption) ?_
                  rotate_left
                  · (intro w hSw; (try dsimp only at hSw); go_simp; all_goals with_reducible rfl)
                  try simp only [Act.put, sA, sB, sC]
                  refine tkH 23 ⟨some 13, _, _, _, _, _⟩ ?_ rfl ?_ (by assumption) ?_
                  rotate_left
                  · (intro w hSw; (try dsimp only at hSw); go_simp; all_goals with_reducible rfl)
                  try simp only [Act.put, sA, sB, sC]
                  refine wpAnyH_done (by kernel_rfl) ?_ _
                  have hTe := hT1
                  obtain ⟨ue, rfl⟩ : ∃ z, z = y1 := ⟨_, rfl⟩
                  clear hHeld HS
                  have PBe := Lib.hid (PB9.out.below hTe)
                  have RBe := Lib.hid (RB9.out.below hTe)
                  have HCe := Lib.hid (HC9.out.below hTe)
                  have HBe := Lib.hid (hBc.trans (hTe.mono hBc.size))
                  clear PB9 RB9 HC9 hBc XB hTe
                  go_wp2
                  go_roundw
                  case rel => exact ⟨k + 1, by omega, by go_num, PBe, RBe, HCe, HBe⟩
                  case measure => simp [intOf]; omega
                | true =>
                  have hq : bj = !bw2 := by have h := hLI.out; revert h; cases bj <;> cases bw2 <;> simp
                  subst hq
                  clear hLI
                  go_upto_region 22 with (fail)
                  refine wp_region_held_drew (S := (fun w' => w'.cell? ⟨w.heap.size, 0, none⟩ = some (.string nm) ∧ w'.cell? ⟨w.heap.size, 1, none⟩ = some (.int .i64 s) ∧ w'.cell? ⟨w.heap.size, 2, none⟩ = some (.slice (some ⟨gb, gf, none⟩) gn gc) ∧ w'.cell? ⟨w.heap.size, 3, none⟩ = some (.slice (some ⟨lb, lo, none⟩) dn dc) ∧ w'.cell? ⟨b7, 0, none⟩ = some (.int .i64 x9) ∧ w'.cell? ⟨b7, 1, none⟩ = some (.int .i64 y9) ∧ w'.cell? ⟨lb, lo + k * 3 + 1, none⟩ = some (.int .i64 yl.d))) (by kernel_rfl) (HS.out _ (Below.refl _ _).drew) (fun hHeld => ?_)
                  have hT0 : Below wc.heap.size wc wc.drew := (Below.refl _ _).drew
                  generalize hdr : wc.drew = y0 at *
                  clear hdr
                  refine tkH 0 ⟨some 105, _, _, _, _, _⟩ ?_ rfl ?_ (by assumption) ?_
                  rotate_left
                  · (intro w hSw; (try dsimp only at hSw); go_simp; all_goals with_reducible rfl)
                  try simp only [Act.put, sA, sB, sC]
                  refine tkH 1 ⟨some 106, _, _, _, _, _⟩ ?_ rfl ?_ (by assumption) ?_
                  rotate_left
                  · (intro w hSw; (try dsimp only at hSw); go_simp; all_goals with_reducible rfl)
                  try simp only [Act.put, sA, sB, sC]
                  refine tkH 2 ⟨some 107, _, _, _, _, _⟩ ?_ rfl ?_ (by assumption) ?_
                  rotate_left
                  · (intro w hSw; (try dsimp only at hSw); go_simp; all_goals with_reducible rfl)
                  try simp only [Act.put, sA, sB, sC]
                  refine tkH 3 ⟨some 108, _, _, _, _, _⟩ ?_ rfl ?_ (by assumption) ?_
                  rotate_left
                  · (intro w hSw; (try dsimp only at hSw); go_simp; all_goals with_reducible rfl)
                  try simp only [Act.put, sA, sB, sC]
                  refine tkH 4 ⟨some 109, _, _, _, _, _⟩ ?_ rfl ?_ (by assumption) ?_
                  rotate_left
                  · (intro w hSw; (try dsimp only at hSw); go_simp; all_goals with_reducible rfl)
                  try simp only [Act.put, sA, sB, sC]
                  refine tkH 5 ⟨some 110, _, _, _, _, _⟩ ?_ rfl ?_ (by assumption) ?_
                  rotate_left
                  · (intro w hSw; (try dsimp only at hSw); go_simp; all_goals with_reducible rfl)
                  try simp only [Act.put, sA, sB, sC]
                  refine tkH 6 ⟨some 111, _, _, _, _, _⟩ ?_ rfl ?_ (by assumption) ?_
                  rotate_left
                  · (intro w hSw; (try dsimp only at hSw); go_simp; all_goals with_reducible rfl)
                  try simp only [Act.put, sA, sB, sC]
                  refine tkH 7 ⟨some 112, _, _, _, _, _⟩ ?_ rfl ?_ (by assumption) ?_
                  rotate_left
                  · (intro w hSw; (try dsimp only at hSw); go_simp; all_goals with_reducible rfl)
                  try simp only [Act.put, sA, sB, sC]
                  refine wpAnyH_ready (rs := [8]) (by kernel_rfl) (by simp) ?_
                  refine AllReadyH.cons rfl (fun K hK => ?_) (AllReadyH.nil)
                  go_simp
                  refine (wB _ _ _ true _ hb1).mono ?_
                  rintro e y1 ⟨rfl, hby0⟩
                  have hT1 : Below wc.heap.size wc y1 := hT0.trans (hby0.mono hT0.size)
                  clear hby0
                  go_wp2_with fail
                  refine hK.out _ _ (HS.out _ hT1) (fun hHeld => ?_)
                  clear hK K
                  try simp only [Act.put, sA, sB, sC]
                  refine tkH 9 ⟨some 114, _, _, _, _, _⟩ ?_ rfl ?_ (by assumption) ?_
                  rotate_left
                  · (intro w hSw; (try dsimp only at hSw); go_simp; all_goals with_reducible rfl)
                  try simp only [Act.put, sA, sB, sC]
                  refine tkH 10 ⟨some 115, _, _, _, _, _⟩ ?_ rfl ?_ (by assumption) ?_
                  rotate_left
                  · (intro w hSw; (try dsimp only at hSw); go_simp; all_goals with_reducible rfl)
                  try simp only [Act.put, sA, sB, sC]
                  refine tkH 11 ⟨some 116, _, _, _, _, _⟩ ?_ rfl ?_ (by assumption) ?_
                  rotate_left
                  · (intro w hSw; (try dsimp only at hSw); go_simp; all_goals with_reducible rfl)
                  try simp only [Act.put, sA, sB, sC]
                  refine tkH 12 ⟨some 117, _, _, _, _, _⟩ ?_ rfl ?_ (by assumption) ?_
                  rotate_left
                  · (intro w hSw; (try dsimp only at hSw); go_simp; all_goals with_reducible rfl)
                  try simp only [Act.put, sA, sB, sC]
                  refine tkH 13 ⟨some 118, _, _, _, _, _⟩ ?_ rfl ?_ (by assumption) ?_
                  rotate_left
                  · (intro w hSw; (try dsimp only at hSw); go_simp; all_goals with_reducible rfl)
                  try simp only [Act.put, sA, sB, sC]
                  refine tkH 14 ⟨some 119, _, _, _, _, _⟩ ?_ rfl ?_ (by assumption) ?_
                  rotate_left
                  · (intro w hSw; (try dsimp only at hSw); go_simp; all_goals with_reducible rfl)
                  try simp only [Act.put, sA, sB, sC]
                  refine tkH 15 ⟨some 120, _, _, _, _, _⟩ ?_ rfl ?_ (by assumption) ?_
                  rotate_left
                  · (intro w hSw; (try dsimp only at hSw); go_simp; all_goals with_reducible rfl)
                  try simp only [Act.put, sA, sB, sC]
                  refine tkH 16 ⟨some 121, _, _, _, _, _⟩ ?_ rfl ?_ (by assumption) ?_
                  rotate_left
                  · (intro w hSw; (try dsimp only at hSw); go_simp; all_goals with_reducible rfl)
                  try simp only [Act.put, sA, sB, sC]
                  refine tkH 17 ⟨some 122, _, _, _, _, _⟩ ?_ rfl ?_ (by assumption) ?_
                  rotate_left
                  · (intro w hSw; (try dsimp only at hSw); go_simp; all_goals with_reducible rfl)
                  try simp only [Act.put, sA, sB, sC]
                  refine tkH 18 ⟨some 123, _, _, _, _, _⟩ ?_ rfl ?_ (by assumption) ?_
                  rotate_left
                  · (intro w hSw; (try dsimp only at hSw); go_simp; all_goals with_reducible rfl)
                  try simp only [Act.put, sA, sB, sC]
                  refine tkH 19 ⟨some 124, _, _, _, _, _⟩ ?_ rfl ?_ (by assumption) ?_
                  rotate_left
                  · (intro w hSw; (try dsimp only at hSw); go_simp; all_goals with_reducible rfl)
                  try simp only [Act.put, sA, sB, sC]
                  refine tkH 20 ⟨some 125, _, _, _, _, _⟩ ?_ rfl ?_ (by assumption) ?_
                  rotate_left
                  · (intro w hSw; (try dsimp only at hSw); go_simp; all_goals with_reducible rfl)
                  try simp only [Act.put, sA, sB, sC]
                  refine wpAnyH_ready (rs := [21]) (by kernel_rfl) (by simp) ?_
                  refine AllReadyH.cons rfl (fun K hK => ?_) (AllReadyH.nil)
                  go_simp
                  refine (wB _ _ _ bw2 _ hb2).mono ?_
                  rintro e y2 ⟨rfl, hby1⟩
                  have hT2 : Below wc.heap.size wc y2 := hT1.trans (hby1.mono hT1.size)
                  clear hby1
                  go_wp2_with fail
                  refine hK.out _ _ (HS.out _ hT2) (fun hHeld => ?_)
                  clear hK K
                  try simp only [Act.put, sA, sB, sC]
                  refine tkH 22 ⟨some 127, _, _, _, _, _⟩ ?_ rfl ?_ (by assumption) ?_
                  rotate_left
                  · (intro w hSw; (try dsimp only at hSw); go_simp; all_goals with_reducible rfl)
                  try simp only [Act.put, sA, sB, sC]
                  refine tkH 23 ⟨some 13, _, _, _, _, _⟩ ?_ rfl ?_ (by assumption) ?_
                  rotate_left
                  · (intro w hSw; (try dsimp only at hSw); go_simp; all_goals with_reducible rfl)
                  try simp only [Act.put, sA, sB, sC]
                  refine wpAnyH_done (by kernel_rfl) ?_ _
                  have hTe := hT2
                  obtain ⟨ue, rfl⟩ : ∃ z, z = y2 := ⟨_, rfl⟩
                  clear hHeld HS
                  cases bw2 with
                  | false =>
                    have PBe := Lib.hid (PB9.out.below hTe)
                    have RBe := Lib.hid (RB9.out.below hTe)
                    have HCe := Lib.hid (HC9.out.below hTe)
                    have HBe := Lib.hid (hBc.trans (hTe.mono hBc.size))
                    clear PB9 RB9 HC9 hBc XB hTe
                    go_wp2
                    go_roundw
                    case rel => exact ⟨k + 1, by omega, by go_num, PBe, RBe, HCe, HBe⟩
                    case measure => simp [intOf]; omega
                  | true =>
                    have PBe := Lib.hid (PB9.out.below hTe)
                    have RBe := Lib.hid (RB9.out.below hTe)
                    have HCe := Lib.hid (HC9.out.below hTe)
                    have HBe := Lib.hid (hBc.trans (hTe.mono hBc.size))
                    clear PB9 RB9 HC9 hBc XB hTe
                    go_wp2
                    go_roundw
                    case rel => exact ⟨k + 1, by omega, by go_num, PBe, RBe, HCe, HBe⟩
                    case measure => simp [intOf]; omega
              · have hq : bj = true := by have h := hLI.out; revert h; cases bj <;> simp
                subst hq
                clear hLI
                go_upto_region 22 with (fail)
                refine wp_region_held_drew (S := (fun w' => w'.cell? ⟨w.heap.size, 0, none⟩ = some (.string nm) ∧ w'.cell? ⟨w.heap.size, 1, none⟩ = some (.int .i64 s) ∧ w'.cell? ⟨w.heap.size, 2, none⟩ = some (.slice (some ⟨gb, gf, none⟩) gn gc) ∧ w'.cell? ⟨w.heap.size, 3, none⟩ = some (.slice (some ⟨lb, lo, none⟩) dn dc) ∧ w'.cell? ⟨b7, 0, none⟩ = some (.int .i64 x9) ∧ w'.cell? ⟨b7, 1, none⟩ = some (.int .i64 y9) ∧ w'.cell? ⟨lb, lo + k * 3 + 1, none⟩ = some (.int .i64 yl.d))) (by kernel_rfl) (HS.out _ (Below.refl _ _).drew) (fun hHeld => ?_)
                have hT0 : Below wc.heap.size wc wc.drew := (Below.refl _ _).drew
                generalize hdr : wc.drew = y0 at *
                clear hdr
                refine tkH 0 ⟨some 105, _, _, _, _, _⟩ ?_ rfl ?_ (by assumption) ?_
                rotate_left
                · (intro w hSw; (try dsimp only at hSw); go_simp; all_goals with_reducible rfl)
                try simp only [Act.put, sA, sB, sC]
                refine tkH 1 ⟨some 106, _, _, _, _, _⟩ ?_ rfl ?_ (by assumption) ?_
                rotate_left
                · (intro w hSw; (try dsimp only at hSw); go_simp; all_goals with_reducible rfl)
                try simp only [Act.put, sA, sB, sC]
                refine tkH 2 ⟨some 107, _, _, _, _, _⟩ ?_ rfl ?_ (by assumption) ?_
                rotate_left
                · (intro w hSw; (try dsimp only at hSw); go_simp; all_goals with_reducible rfl)
                try simp only [Act.put, sA, sB, sC]
                refine skH 3 ⟨some 108, _, _, _, _, _⟩ rfl (by assumption) ?_
                try simp only [Act.put, sA, sB, sC]
                refine skH 4 ⟨some 109, _, _, _, _, _⟩ rfl (by assumption) ?_
                try simp only [Act.put, sA, sB, sC]
                refine skH 5 ⟨some 110, _, _, _, _, _⟩ rfl (by assumption) ?_
                try simp only [Act.put, sA, sB, sC]
                refine skH 6 ⟨some 111, _, _, _, _, _⟩ rfl (by assumption) ?_
                try simp only [Act.put, sA, sB, sC]
                refine skH 7 ⟨some 112, _, _, _, _, _⟩ rfl (by assumption) ?_
                try simp only [Act.put, sA, sB, sC]
                refine skH 8 ⟨some 113, _, _, _, _, _⟩ rfl (by assumption) ?_
                try simp only [Act.put, sA, sB, sC]
                refine tkH 9 ⟨some 114, _, _, _, _, _⟩ ?_ rfl ?_ (by assumption) ?_
                rotate_left
                · (intro w hSw; (try dsimp only at hSw); go_simp; all_goals with_reducible rfl)
                try simp only [Act.put, sA, sB, sC]
                refine tkH 10 ⟨some 115, _, _, _, _, _⟩ ?_ rfl ?_ (by assumption) ?_
                rotate_left
                · (intro w hSw; (try dsimp only at hSw); go_simp; all_goals with_reducible rfl)
                try simp only [Act.put, sA, sB, sC]
                refine skH 11 ⟨some 116, _, _, _, _, _⟩ rfl (by assumption) ?_
                try simp only [Act.put, sA, sB, sC]
                refine skH 12 ⟨some 117, _, _, _, _, _⟩ rfl (by assumption) ?_
                try simp only [Act.put, sA, sB, sC]
                refine skH 13 ⟨some 118, _, _, _, _, _⟩ rfl (by assumption) ?_
                try simp only [Act.put, sA, sB, sC]
                refine skH 14 ⟨some 119, _, _, _, _, _⟩ rfl (by assumption) ?_
                try simp only [Act.put, sA, sB, sC]
                refine skH 15 ⟨some 120, _, _, _, _, _⟩ rfl (by assumption) ?_
                try simp only [Act.put, sA, sB, sC]
                refine skH 16 ⟨some 121, _, _, _, _, _⟩ rfl (by assumption) ?_
                try simp only [Act.put, sA, sB, sC]
                refine skH 17 ⟨some 122, _, _, _, _, _⟩ rfl (by assumption) ?_
                try simp only [Act.put, sA, sB, sC]
                refine skH 18 ⟨some 123, _, _, _, _, _⟩ rfl (by assumption) ?_
                try simp only [Act.put, sA, sB, sC]
                refine skH 19 ⟨some 124, _, _, _, _, _⟩ rfl (by assumption) ?_
                try simp only [Act.put, sA, sB, sC]
                refine skH 20 ⟨some 125, _, _, _, _, _⟩ rfl (by assumption) ?_
                try simp only [Act.put, sA, sB, sC]
                refine skH 21 ⟨some 126, _, _, _, _, _⟩ rfl (by assumption) ?_
                try simp only [Act.put, sA, sB, sC]
                refine tkH 22 ⟨some 127, _, _, _, _, _⟩ ?_ rfl ?_ (by assumption) ?_
                rotate_left
                · (intro w hSw; (try dsimp only at hSw); go_simp; all_goals with_reducible rfl)
                try simp only [Act.put, sA, sB, sC]
                refine tkH 23 ⟨some 13, _, _, _, _, _⟩ ?_ rfl ?_ (by assumption) ?_
                rotate_left
                · (intro w hSw; (try dsimp only at hSw); go_simp; all_goals with_reducible rfl)
                try simp only [Act.put, sA, sB, sC]
                refine wpAnyH_done (by kernel_rfl) ?_ _
                have hTe := hT0
                obtain ⟨ue, rfl⟩ : ∃ z, z = y0 := ⟨_, rfl⟩
                clear hHeld HS
                have PBe := Lib.hid (PB9.out.below hTe)
                have RBe := Lib.hid (RB9.out.below hTe)
                have HCe := Lib.hid (HC9.out.below hTe)
                have HBe := Lib.hid (hBc.trans (hTe.mono hBc.size))
                clear PB9 RB9 HC9 hBc XB hTe
                go_wp2
                go_roundw
                case rel => exact ⟨k + 1, by omega, by go_num, PBe, RBe, HCe, HBe⟩
                case measure => simp [intOf]; omega
  
    · have kn : ¬ (k : Int) < (dn : Int) := by omega
      go_wp2
      go_ret
      exact ⟨rfl, hB⟩
theorem exposureWithin_r (nm : ByteArray) (s : Int) (G : List Ga) (D : List Le) (A B : Option Addr) (gn gc dn dc : Nat) (T : List Ox) (r : Ru) (AT : Option Addr) (tn tc : Nat) (w : World) (hz : nm.size ≤ 9223372036854775807) (hgn : Hid (gn = G.length)) (hgl : gn ≤ 9223372036854775807) (hdn : Hid (dn = D.length)) (hdl : dn ≤ 9223372036854775807) (hG : Hid (SlRows gaV 2 w A G)) (hD : Hid (SlRows leV 3 w B D)) (CG : Hid (A = none → gn = 0 ∧ gc = 0)) (CD : Hid (B = none → dn = 0 ∧ dc = 0)) (htn : Hid (tn = T.length)) (htl : tn ≤ 9223372036854775807) (hT : Hid (SlRows oxV 2 w AT T)) (CT : Hid (AT = none → tn = 0 ∧ tc = 0)) :
    Calls Try.prog 9 #[.agg #[.string nm, .int .i64 s, .slice A gn gc, .slice B dn dc], .agg #[.slice AT tn tc, .int .i64 r.a, .int .i64 r.b, .int .i64 r.nc, .int .i64 r.dn, .int .i64 r.br, .int .i64 r.em, .int .i64 r.pa, .int .i64 r.sc]] w fun e w' => e = .returned (.bool true) ∧ Below w.heap.size w w' := by
  cases hS : shortB nm.size dn gn with
  | false => exact wi_short nm s G D A B gn gc dn dc T r AT tn tc w hz hgn hgl hdn hdl hG hD CG CD htn htl hT CT (Lib.hid hS)
  | true =>
    cases hF : fewB tn with
    | false => exact wi_few nm s G D A B gn gc dn dc T r AT tn tc w hz hgn hgl hdn hdl hG hD CG CD htn htl hT CT (Lib.hid hS) (Lib.hid hF)
    | true =>
      obtain ⟨N, E0, hE0⟩ : ∃ N E0, plnP nm s G D = (N, E0) := ⟨_, _, rfl⟩
      obtain ⟨E1, hE1⟩ : ∃ z, ruE T r = z := ⟨_, rfl⟩
      by_cases h0 : firE [E0, E1] = 0
      · have ha := firE_all h0
        obtain rfl : E0 = 0 := ha _ (by simp)
        obtain rfl : E1 = 0 := ha _ (by simp)
        exact wi_good nm s G D A B gn gc dn dc T r AT tn tc N _ _ w hz hgn hgl hdn hdl hG hD CG CD htn htl hT CT (Lib.hid hS) (Lib.hid hF) (Lib.hid hE0) (Lib.hid hE1) (Lib.hid rfl) (Lib.hid rfl) (Lib.hid rfl)
      · exact wi_err nm s G D A B gn gc dn dc T r AT tn tc N E0 E1 _ w hz hgn hgl hdn hdl hG hD CG CD htn htl hT CT (Lib.hid hS) (Lib.hid hF) (Lib.hid hE0) (Lib.hid hE1) (Lib.hid rfl) (by simpa using h0)
theorem nilCap {α : Type} {f : α → List Value} {k : Nat} {w : World} {A : Option Addr} {L : List α} {c : Nat} (h : SlRows f k w A L) (hn : A = none → c = 0) : A = none → L.length = 0 ∧ c = 0 := fun e => by
  rcases h with h | ⟨b, o, h, _⟩
  · exact ⟨by rw [h]; rfl, hn e⟩
  · rw [e] at h; cases h
theorem exposureWithin_any (nm : ByteArray) (s : Int) (G : List Ga) (GA : Option Addr) (gc : Nat) (D : List Le) (DA : Option Addr) (dc : Nat) (T : List Ox) (A : Option Addr) (cap : Nat) (ra rb rnc rdn rbr rem rpa rsc : Int) (w : World) (hnm : nm.size ≤ 9223372036854775807) (hGl : G.length ≤ 9223372036854775807) (hGn : GA = none → gc = 0) (hGs : SlRows gaV 2 w GA G) (hDl : D.length ≤ 9223372036854775807) (hDn : DA = none → dc = 0) (hDs : SlRows leV 3 w DA D) (hTl : T.length ≤ 9223372036854775807) (hTn : A = none → cap = 0) (hTs : SlRows oxV 2 w A T) :
    Calls Try.prog 9 #[.agg #[.string nm, .int .i64 s, .slice GA G.length gc, .slice DA D.length dc], .agg #[.slice A T.length cap, .int .i64 ra, .int .i64 rb, .int .i64 rnc, .int .i64 rdn, .int .i64 rbr, .int .i64 rem, .int .i64 rpa, .int .i64 rsc]] w fun e w' => e = .returned (.bool true) ∧ Below w.heap.size w w' := by
  exact exposureWithin_r nm s G D GA DA G.length gc D.length dc T ⟨ra, rb, rnc, rdn, rbr, rem, rpa, rsc⟩ A T.length cap w hnm (Lib.hid rfl) hGl (Lib.hid rfl) hDl (Lib.hid hGs) (Lib.hid hDs) (Lib.hid (nilCap hGs hGn)) (Lib.hid (nilCap hDs hDn)) (Lib.hid rfl) hTl (Lib.hid hTs) (Lib.hid (nilCap hTs hTn))
end Go.Proofs.Ytijdphlejokijaa
