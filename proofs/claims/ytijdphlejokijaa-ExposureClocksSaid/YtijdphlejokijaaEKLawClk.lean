import Derived.Test.YtijdphlejokijaaEKERck
import Derived.Test.YtijdphlejokijaaEKECpP
import Derived.Test.YtijdphlejokijaaEKEAwk
import Derived.Outline
namespace Go.Proofs.Ytijdphlejokijaa
open Go.ChangeShapes Go.WideShapes Go.ChangeAt Go.RowKit
set_option linter.unusedVariables false
set_option linter.unusedSimpArgs false
attribute [local go_sem ↓] Go.wp_at_zero Go.wp_at_succ
theorem cl_bad {P : Program} {f : FuncId} {args : Array Value} {w : World} {E : Int} {R Q : Ending → World → Prop} (h : Calls P f args w fun e w' => (¬ E = 0 ∧ R e w') ∨ (E = 0 ∧ Q e w')) (h0 : ¬ E = 0) : Calls P f args w R := h.mono fun e w' h => h.elim (fun h => h.2) (fun h => absurd h.1 h0)
theorem cl_good {P : Program} {f : FuncId} {args : Array Value} {w : World} {E : Int} {R Q : Ending → World → Prop} (h : Calls P f args w fun e w' => (¬ E = 0 ∧ R e w') ∨ (E = 0 ∧ Q e w')) (h0 : E = 0) : Calls P f args w Q := h.mono fun e w' h => h.elim (fun h => absurd h0 h.1) (fun h => h.2)
theorem OxygenOn_ok (nm : ByteArray) (s : Int) (G : List Ga) (D : List Le) (A B : Option Addr) (gn gc dn dc : Nat) (k N : Nat) (ox oy : Int) (w : World) (hz : nm.size ≤ 9223372036854775807) (hgn : Hid (gn = G.length)) (hgl : gn ≤ 9223372036854775807) (hdn : Hid (dn = D.length)) (hdl : dn ≤ 9223372036854775807) (hG : Hid (SlRows gaV 2 w A G)) (hD : Hid (SlRows leV 3 w B D)) (hE0 : Hid (plnP nm s G D = (N, 0))) (hk : k < dn) (hP : Hid (oxyP (legK s G D k) = (ox, oy))) :
    Calls Try.prog 25 #[.agg #[.string nm, .int .i64 s, .slice A gn gc, .slice B dn dc], .int .i64 (k : Int)] w fun e w' => e = .returned (.tuple #[.agg #[.int .i64 ox, .int .i64 oy], .int .i64 0]) ∧ Below w.heap.size w w' := by
  have hl : lgE (k : Int) dn = 0 := by unfold lgE; rw [inB_true (by omega) (by omega), if_pos rfl]
  refine (cl_good (OxygenOn_any nm s G D A B gn gc dn dc k N 0 0 w hz hgn hgl hdn hdl hG hD hE0 (Lib.hid (by rw [hl]; rfl))) rfl).mono fun e w' h => ?_
  rw [Int.toNat_natCast, hP.out] at h
  exact h
theorem refOxygenOn_ok (nm : ByteArray) (s : Int) (G : List Ga) (D : List Le) (A B : Option Addr) (gn gc dn dc : Nat) (k : Nat) (ox oy : Int) (w : World) (hgn : Hid (gn = G.length)) (hdn : Hid (dn = D.length)) (hok : Hid (PlnOk nm s G D)) (hG : Hid (SlRows gaV 2 w A G)) (hD : Hid (SlRows leV 3 w B D)) (hk : k < dn) (hP : Hid (oxyP (legK s G D k) = (ox, oy))) :
    Calls Try.prog 27 #[.agg #[.string nm, .int .i64 s, .slice A gn gc, .slice B dn dc], .int .i64 (k : Int)] w fun e w' => e = .returned (.agg #[.int .i64 ox, .int .i64 oy]) ∧ Below w.heap.size w w' := by
  refine (refOxygenOn_is nm s G D A B gn gc dn dc k w hgn hdn hok hG hD hk).mono fun e w' h => ?_
  rw [hP.out] at h
  exact h
set_option maxRecDepth 100000 in
set_option maxHeartbeats 8000000 in
theorem clk_short (nm : ByteArray) (s : Int) (G : List Ga) (D : List Le) (A B : Option Addr) (gn gc dn dc : Nat) (T : List Ox) (r : Ru) (AT : Option Addr) (tn tc : Nat) (leg : Int)  (w : World) (hz : nm.size ≤ 9223372036854775807) (hgn : Hid (gn = G.length)) (hgl : gn ≤ 9223372036854775807) (hdn : Hid (dn = D.length)) (hdl : dn ≤ 9223372036854775807) (hG : Hid (SlRows gaV 2 w A G)) (hD : Hid (SlRows leV 3 w B D)) (CG : Hid (A = none → gn = 0 ∧ gc = 0)) (CD : Hid (B = none → dn = 0 ∧ dc = 0)) (htn : Hid (tn = T.length)) (htl : tn ≤ 9223372036854775807) (hT : Hid (SlRows oxV 2 w AT T)) (CT : Hid (AT = none → tn = 0 ∧ tc = 0)) (hS : Hid (shortB nm.size dn gn = false)) :
    Calls Try.prog 4 #[.agg #[.string nm, .int .i64 s, .slice A gn gc, .slice B dn dc], .agg #[.slice AT tn tc, .int .i64 r.a, .int .i64 r.b, .int .i64 r.nc, .int .i64 r.dn, .int .i64 r.br, .int .i64 r.em, .int .i64 r.pa, .int .i64 r.sc], .int .i64 leg] w fun e w' => e = .returned (.bool true) ∧ Below w.heap.size w w' := by
  go_enter Try.func4, Try.ntmps4
  go_wp2_with fail
  refine (awake_any _).mono ?_
  rintro e x1 ⟨rfl, hb1⟩
  have hc1 : Below w.heap.size w x1 := (((Below.refl _ _).alloc (by first | exact Nat.le_refl _ | (simp; done) | (simp; omega)) _).alloc (by first | exact Nat.le_refl _ | (simp; done) | (simp; omega)) _).trans (hb1.mono (by first | exact Nat.le_refl _ | (simp; done) | (simp; omega)))
  have hB1 : Below w.heap.size w x1 := hc1
  have zu1 := hB1.size
  have PB : Hid (BlkF x1 w.heap.size (w.heap.size) [.string nm, .int .i64 s, .slice A gn gc, .slice B dn dc]) := Lib.hid (((BlkF.made (B := w.heap.size) w [.string nm, .int .i64 s, .slice A gn gc, .slice B dn dc] 40 (by first | exact Nat.le_refl _ | (simp; done) | (simp; omega))).below ((Below.refl _ _).alloc (Nat.le_refl _) _)).below hb1)
  have zPB1 := PB.out.lt
  have RB : Hid (BlkF x1 w.heap.size (w.heap.size + 1) [.slice AT tn tc, .int .i64 r.a, .int .i64 r.b, .int .i64 r.nc, .int .i64 r.dn, .int .i64 r.br, .int .i64 r.em, .int .i64 r.pa, .int .i64 r.sc]) := Lib.hid (by have := (BlkF.made (B := w.heap.size) (w.alloc (.cells #[.string nm, .int .i64 s, .slice A gn gc, .slice B dn dc] 40)) [.slice AT tn tc, .int .i64 r.a, .int .i64 r.b, .int .i64 r.nc, .int .i64 r.dn, .int .i64 r.br, .int .i64 r.em, .int .i64 r.pa, .int .i64 r.sc] 26 (by first | exact Nat.le_refl _ | (simp; done) | (simp; omega))).below hb1; simpa using this)
  have zRB1 := RB.out.lt
  clear hb1
  obtain ⟨PB_1_0, PB_1_1, PB_1_2, PB_1_3⟩ := b4 PB.out
  have lPB_1 := PB.out.lt
  have nPB_1 : x1.heap.size ≠ w.heap.size := by omega
  have mPB_1 : w.heap.size ≠ x1.heap.size := by omega
  obtain ⟨RB_1_0, RB_1_1, RB_1_2, RB_1_3, RB_1_4, RB_1_5, RB_1_6, RB_1_7, RB_1_8⟩ := b9 RB.out
  have lRB_1 := RB.out.lt
  have nRB_1 : x1.heap.size ≠ w.heap.size + 1 := by omega
  have mRB_1 : w.heap.size + 1 ≠ x1.heap.size := by omega
  go_wp2_with fail
  refine (Short_is nm s G D A B gn gc dn dc false _ hz hgl hdl hS).mono ?_
  rintro e x2 ⟨rfl, hb2⟩
  have hc2 : Below x1.heap.size x1 x2 := hb2
  have hB2 : Below w.heap.size w x2 := hB1.trans (hc2.mono hB1.size)
  have zu2 := hB2.size
  replace PB := Lib.hid (PB.out.below hc2)
  replace RB := Lib.hid (RB.out.below hc2)
  clear PB_1_0 PB_1_1 PB_1_2 PB_1_3 lPB_1 nPB_1 mPB_1 RB_1_0 RB_1_1 RB_1_2 RB_1_3 RB_1_4 RB_1_5 RB_1_6 RB_1_7 RB_1_8 lRB_1 nRB_1 mRB_1
  clear hb2 hB1 zu1 hc1
  obtain ⟨PB_2_0, PB_2_1, PB_2_2, PB_2_3⟩ := b4 PB.out
  have lPB_2 := PB.out.lt
  have nPB_2 : x2.heap.size ≠ w.heap.size := by omega
  have mPB_2 : w.heap.size ≠ x2.heap.size := by omega
  obtain ⟨RB_2_0, RB_2_1, RB_2_2, RB_2_3, RB_2_4, RB_2_5, RB_2_6, RB_2_7, RB_2_8⟩ := b9 RB.out
  have lRB_2 := RB.out.lt
  have nRB_2 : x2.heap.size ≠ w.heap.size + 1 := by omega
  have mRB_2 : w.heap.size + 1 ≠ x2.heap.size := by omega
  go_wp2
  go_ret
  exact ⟨rfl, hB2⟩
set_option maxRecDepth 100000 in
set_option maxHeartbeats 8000000 in
theorem clk_few (nm : ByteArray) (s : Int) (G : List Ga) (D : List Le) (A B : Option Addr) (gn gc dn dc : Nat) (T : List Ox) (r : Ru) (AT : Option Addr) (tn tc : Nat) (leg : Int)  (w : World) (hz : nm.size ≤ 9223372036854775807) (hgn : Hid (gn = G.length)) (hgl : gn ≤ 9223372036854775807) (hdn : Hid (dn = D.length)) (hdl : dn ≤ 9223372036854775807) (hG : Hid (SlRows gaV 2 w A G)) (hD : Hid (SlRows leV 3 w B D)) (CG : Hid (A = none → gn = 0 ∧ gc = 0)) (CD : Hid (B = none → dn = 0 ∧ dc = 0)) (htn : Hid (tn = T.length)) (htl : tn ≤ 9223372036854775807) (hT : Hid (SlRows oxV 2 w AT T)) (CT : Hid (AT = none → tn = 0 ∧ tc = 0)) (hS : Hid (shortB nm.size dn gn = true)) (hF : Hid (fewB tn = false)) :
    Calls Try.prog 4 #[.agg #[.string nm, .int .i64 s, .slice A gn gc, .slice B dn dc], .agg #[.slice AT tn tc, .int .i64 r.a, .int .i64 r.b, .int .i64 r.nc, .int .i64 r.dn, .int .i64 r.br, .int .i64 r.em, .int .i64 r.pa, .int .i64 r.sc], .int .i64 leg] w fun e w' => e = .returned (.bool true) ∧ Below w.heap.size w w' := by
  go_enter Try.func4, Try.ntmps4
  go_wp2_with fail
  refine (awake_any _).mono ?_
  rintro e x1 ⟨rfl, hb1⟩
  have hc1 : Below w.heap.size w x1 := (((Below.refl _ _).alloc (by first | exact Nat.le_refl _ | (simp; done) | (simp; omega)) _).alloc (by first | exact Nat.le_refl _ | (simp; done) | (simp; omega)) _).trans (hb1.mono (by first | exact Nat.le_refl _ | (simp; done) | (simp; omega)))
  have hB1 : Below w.heap.size w x1 := hc1
  have zu1 := hB1.size
  have PB : Hid (BlkF x1 w.heap.size (w.heap.size) [.string nm, .int .i64 s, .slice A gn gc, .slice B dn dc]) := Lib.hid (((BlkF.made (B := w.heap.size) w [.string nm, .int .i64 s, .slice A gn gc, .slice B dn dc] 40 (by first | exact Nat.le_refl _ | (simp; done) | (simp; omega))).below ((Below.refl _ _).alloc (Nat.le_refl _) _)).below hb1)
  have zPB1 := PB.out.lt
  have RB : Hid (BlkF x1 w.heap.size (w.heap.size + 1) [.slice AT tn tc, .int .i64 r.a, .int .i64 r.b, .int .i64 r.nc, .int .i64 r.dn, .int .i64 r.br, .int .i64 r.em, .int .i64 r.pa, .int .i64 r.sc]) := Lib.hid (by have := (BlkF.made (B := w.heap.size) (w.alloc (.cells #[.string nm, .int .i64 s, .slice A gn gc, .slice B dn dc] 40)) [.slice AT tn tc, .int .i64 r.a, .int .i64 r.b, .int .i64 r.nc, .int .i64 r.dn, .int .i64 r.br, .int .i64 r.em, .int .i64 r.pa, .int .i64 r.sc] 26 (by first | exact Nat.le_refl _ | (simp; done) | (simp; omega))).below hb1; simpa using this)
  have zRB1 := RB.out.lt
  clear hb1
  obtain ⟨PB_1_0, PB_1_1, PB_1_2, PB_1_3⟩ := b4 PB.out
  have lPB_1 := PB.out.lt
  have nPB_1 : x1.heap.size ≠ w.heap.size := by omega
  have mPB_1 : w.heap.size ≠ x1.heap.size := by omega
  obtain ⟨RB_1_0, RB_1_1, RB_1_2, RB_1_3, RB_1_4, RB_1_5, RB_1_6, RB_1_7, RB_1_8⟩ := b9 RB.out
  have lRB_1 := RB.out.lt
  have nRB_1 : x1.heap.size ≠ w.heap.size + 1 := by omega
  have mRB_1 : w.heap.size + 1 ≠ x1.heap.size := by omega
  go_wp2_with fail
  refine (Short_is nm s G D A B gn gc dn dc true _ hz hgl hdl hS).mono ?_
  rintro e x2 ⟨rfl, hb2⟩
  have hc2 : Below x1.heap.size x1 x2 := hb2
  have hB2 : Below w.heap.size w x2 := hB1.trans (hc2.mono hB1.size)
  have zu2 := hB2.size
  replace PB := Lib.hid (PB.out.below hc2)
  replace RB := Lib.hid (RB.out.below hc2)
  clear PB_1_0 PB_1_1 PB_1_2 PB_1_3 lPB_1 nPB_1 mPB_1 RB_1_0 RB_1_1 RB_1_2 RB_1_3 RB_1_4 RB_1_5 RB_1_6 RB_1_7 RB_1_8 lRB_1 nRB_1 mRB_1
  clear hb2 hB1 zu1 hc1
  obtain ⟨PB_2_0, PB_2_1, PB_2_2, PB_2_3⟩ := b4 PB.out
  have lPB_2 := PB.out.lt
  have nPB_2 : x2.heap.size ≠ w.heap.size := by omega
  have mPB_2 : w.heap.size ≠ x2.heap.size := by omega
  obtain ⟨RB_2_0, RB_2_1, RB_2_2, RB_2_3, RB_2_4, RB_2_5, RB_2_6, RB_2_7, RB_2_8⟩ := b9 RB.out
  have lRB_2 := RB.out.lt
  have nRB_2 : x2.heap.size ≠ w.heap.size + 1 := by omega
  have mRB_2 : w.heap.size + 1 ≠ x2.heap.size := by omega
  go_wp2_with fail
  refine (few_is r AT tn tc false _ htl hF).mono ?_
  rintro e x3 ⟨rfl, hb3⟩
  have hc3 : Below x2.heap.size x2 x3 := hb3
  have hB3 : Below w.heap.size w x3 := hB2.trans (hc3.mono hB2.size)
  have zu3 := hB3.size
  replace PB := Lib.hid (PB.out.below hc3)
  replace RB := Lib.hid (RB.out.below hc3)
  clear PB_2_0 PB_2_1 PB_2_2 PB_2_3 lPB_2 nPB_2 mPB_2 RB_2_0 RB_2_1 RB_2_2 RB_2_3 RB_2_4 RB_2_5 RB_2_6 RB_2_7 RB_2_8 lRB_2 nRB_2 mRB_2
  clear hb3 hB2 zu2 hc2
  obtain ⟨PB_3_0, PB_3_1, PB_3_2, PB_3_3⟩ := b4 PB.out
  have lPB_3 := PB.out.lt
  have nPB_3 : x3.heap.size ≠ w.heap.size := by omega
  have mPB_3 : w.heap.size ≠ x3.heap.size := by omega
  obtain ⟨RB_3_0, RB_3_1, RB_3_2, RB_3_3, RB_3_4, RB_3_5, RB_3_6, RB_3_7, RB_3_8⟩ := b9 RB.out
  have lRB_3 := RB.out.lt
  have nRB_3 : x3.heap.size ≠ w.heap.size + 1 := by omega
  have mRB_3 : w.heap.size + 1 ≠ x3.heap.size := by omega
  go_wp2
  go_ret
  exact ⟨rfl, hB3⟩
set_option maxRecDepth 100000 in
set_option maxHeartbeats 8000000 in
theorem clk_plan (nm : ByteArray) (s : Int) (G : List Ga) (D : List Le) (A B : Option Addr) (gn gc dn dc : Nat) (T : List Ox) (r : Ru) (AT : Option Addr) (tn tc : Nat) (leg : Int) (N : Nat) (E0 E1 : Int) (w : World) (hz : nm.size ≤ 9223372036854775807) (hgn : Hid (gn = G.length)) (hgl : gn ≤ 9223372036854775807) (hdn : Hid (dn = D.length)) (hdl : dn ≤ 9223372036854775807) (hG : Hid (SlRows gaV 2 w A G)) (hD : Hid (SlRows leV 3 w B D)) (CG : Hid (A = none → gn = 0 ∧ gc = 0)) (CD : Hid (B = none → dn = 0 ∧ dc = 0)) (htn : Hid (tn = T.length)) (htl : tn ≤ 9223372036854775807) (hT : Hid (SlRows oxV 2 w AT T)) (CT : Hid (AT = none → tn = 0 ∧ tc = 0)) (hS : Hid (shortB nm.size dn gn = true)) (hF : Hid (fewB tn = true)) (hE0 : Hid (plnP nm s G D = (N, E0))) (hE1 : Hid (ruE T r = E1)) (hE : Hid (firE [E0, E1] = E0)) (hEx : Hid (firE [E0, lgE leg dn] = E0)) (hne : ¬ E0 = 0) (hnx : ¬ E0 = 0) (hnb : (E0 != 0) = true) (hne0 : (E0 == 0) = false) :
    Calls Try.prog 4 #[.agg #[.string nm, .int .i64 s, .slice A gn gc, .slice B dn dc], .agg #[.slice AT tn tc, .int .i64 r.a, .int .i64 r.b, .int .i64 r.nc, .int .i64 r.dn, .int .i64 r.br, .int .i64 r.em, .int .i64 r.pa, .int .i64 r.sc], .int .i64 leg] w fun e w' => e = .returned (.bool true) ∧ Below w.heap.size w w' := by
  have hsb := shortB_le hS.out
  have hz6 : nm.size ≤ 1000000 := by omega
  have hg6 : gn ≤ 1000000 := by omega
  have hd6 : dn ≤ 1000000 := by omega
  have ht22 : tn ≤ 22 := fewB_le hF.out
  have ht6 : tn ≤ 1000000 := by omega
  go_enter Try.func4, Try.ntmps4
  go_wp2_with fail
  refine (awake_any _).mono ?_
  rintro e x1 ⟨rfl, hb1⟩
  have hc1 : Below w.heap.size w x1 := (((Below.refl _ _).alloc (by first | exact Nat.le_refl _ | (simp; done) | (simp; omega)) _).alloc (by first | exact Nat.le_refl _ | (simp; done) | (simp; omega)) _).trans (hb1.mono (by first | exact Nat.le_refl _ | (simp; done) | (simp; omega)))
  have hB1 : Below w.heap.size w x1 := hc1
  have zu1 := hB1.size
  have PB : Hid (BlkF x1 w.heap.size (w.heap.size) [.string nm, .int .i64 s, .slice A gn gc, .slice B dn dc]) := Lib.hid (((BlkF.made (B := w.heap.size) w [.string nm, .int .i64 s, .slice A gn gc, .slice B dn dc] 40 (by first | exact Nat.le_refl _ | (simp; done) | (simp; omega))).below ((Below.refl _ _).alloc (Nat.le_refl _) _)).below hb1)
  have zPB1 := PB.out.lt
  have RB : Hid (BlkF x1 w.heap.size (w.heap.size + 1) [.slice AT tn tc, .int .i64 r.a, .int .i64 r.b, .int .i64 r.nc, .int .i64 r.dn, .int .i64 r.br, .int .i64 r.em, .int .i64 r.pa, .int .i64 r.sc]) := Lib.hid (by have := (BlkF.made (B := w.heap.size) (w.alloc (.cells #[.string nm, .int .i64 s, .slice A gn gc, .slice B dn dc] 40)) [.slice AT tn tc, .int .i64 r.a, .int .i64 r.b, .int .i64 r.nc, .int .i64 r.dn, .int .i64 r.br, .int .i64 r.em, .int .i64 r.pa, .int .i64 r.sc] 26 (by first | exact Nat.le_refl _ | (simp; done) | (simp; omega))).below hb1; simpa using this)
  have zRB1 := RB.out.lt
  clear hb1
  obtain ⟨PB_1_0, PB_1_1, PB_1_2, PB_1_3⟩ := b4 PB.out
  have lPB_1 := PB.out.lt
  have nPB_1 : x1.heap.size ≠ w.heap.size := by omega
  have mPB_1 : w.heap.size ≠ x1.heap.size := by omega
  obtain ⟨RB_1_0, RB_1_1, RB_1_2, RB_1_3, RB_1_4, RB_1_5, RB_1_6, RB_1_7, RB_1_8⟩ := b9 RB.out
  have lRB_1 := RB.out.lt
  have nRB_1 : x1.heap.size ≠ w.heap.size + 1 := by omega
  have mRB_1 : w.heap.size + 1 ≠ x1.heap.size := by omega
  go_wp2_with fail
  refine (Short_is nm s G D A B gn gc dn dc true _ hz hgl hdl hS).mono ?_
  rintro e x2 ⟨rfl, hb2⟩
  have hc2 : Below x1.heap.size x1 x2 := hb2
  have hB2 : Below w.heap.size w x2 := hB1.trans (hc2.mono hB1.size)
  have zu2 := hB2.size
  replace PB := Lib.hid (PB.out.below hc2)
  replace RB := Lib.hid (RB.out.below hc2)
  clear PB_1_0 PB_1_1 PB_1_2 PB_1_3 lPB_1 nPB_1 mPB_1 RB_1_0 RB_1_1 RB_1_2 RB_1_3 RB_1_4 RB_1_5 RB_1_6 RB_1_7 RB_1_8 lRB_1 nRB_1 mRB_1
  clear hb2 hB1 zu1 hc1
  obtain ⟨PB_2_0, PB_2_1, PB_2_2, PB_2_3⟩ := b4 PB.out
  have lPB_2 := PB.out.lt
  have nPB_2 : x2.heap.size ≠ w.heap.size := by omega
  have mPB_2 : w.heap.size ≠ x2.heap.size := by omega
  obtain ⟨RB_2_0, RB_2_1, RB_2_2, RB_2_3, RB_2_4, RB_2_5, RB_2_6, RB_2_7, RB_2_8⟩ := b9 RB.out
  have lRB_2 := RB.out.lt
  have nRB_2 : x2.heap.size ≠ w.heap.size + 1 := by omega
  have mRB_2 : w.heap.size + 1 ≠ x2.heap.size := by omega
  go_wp2_with fail
  refine (few_is r AT tn tc true _ htl hF).mono ?_
  rintro e x3 ⟨rfl, hb3⟩
  have hc3 : Below x2.heap.size x2 x3 := hb3
  have hB3 : Below w.heap.size w x3 := hB2.trans (hc3.mono hB2.size)
  have zu3 := hB3.size
  replace PB := Lib.hid (PB.out.below hc3)
  replace RB := Lib.hid (RB.out.below hc3)
  clear PB_2_0 PB_2_1 PB_2_2 PB_2_3 lPB_2 nPB_2 mPB_2 RB_2_0 RB_2_1 RB_2_2 RB_2_3 RB_2_4 RB_2_5 RB_2_6 RB_2_7 RB_2_8 lRB_2 nRB_2 mRB_2
  clear hb3 hB2 zu2 hc2
  obtain ⟨PB_3_0, PB_3_1, PB_3_2, PB_3_3⟩ := b4 PB.out
  have lPB_3 := PB.out.lt
  have nPB_3 : x3.heap.size ≠ w.heap.size := by omega
  have mPB_3 : w.heap.size ≠ x3.heap.size := by omega
  obtain ⟨RB_3_0, RB_3_1, RB_3_2, RB_3_3, RB_3_4, RB_3_5, RB_3_6, RB_3_7, RB_3_8⟩ := b9 RB.out
  have lRB_3 := RB.out.lt
  have nRB_3 : x3.heap.size ≠ w.heap.size + 1 := by omega
  have mRB_3 : w.heap.size + 1 ≠ x3.heap.size := by omega
  go_upto_region 5 with (fail)
  have HS : Hid (∀ y, Below x3.heap.size x3 y → y.cell? ⟨w.heap.size, 0, none⟩ = some (.string nm) ∧ y.cell? ⟨w.heap.size, 1, none⟩ = some (.int .i64 s) ∧ y.cell? ⟨w.heap.size, 2, none⟩ = some (.slice A gn gc) ∧ y.cell? ⟨w.heap.size, 3, none⟩ = some (.slice B dn dc) ∧ y.cell? ⟨w.heap.size + 1, 0, none⟩ = some (.slice AT tn tc) ∧ y.cell? ⟨w.heap.size + 1, 1, none⟩ = some (.int .i64 r.a) ∧ y.cell? ⟨w.heap.size + 1, 2, none⟩ = some (.int .i64 r.b) ∧ y.cell? ⟨w.heap.size + 1, 3, none⟩ = some (.int .i64 r.nc) ∧ y.cell? ⟨w.heap.size + 1, 4, none⟩ = some (.int .i64 r.dn) ∧ y.cell? ⟨w.heap.size + 1, 5, none⟩ = some (.int .i64 r.br) ∧ y.cell? ⟨w.heap.size + 1, 6, none⟩ = some (.int .i64 r.em) ∧ y.cell? ⟨w.heap.size + 1, 7, none⟩ = some (.int .i64 r.pa) ∧ y.cell? ⟨w.heap.size + 1, 8, none⟩ = some (.int .i64 r.sc)) := Lib.hid fun y hy => ⟨(hy.cell (p := ⟨w.heap.size, 0, none⟩) lPB_3).trans PB_3_0, (hy.cell (p := ⟨w.heap.size, 1, none⟩) lPB_3).trans PB_3_1, (hy.cell (p := ⟨w.heap.size, 2, none⟩) lPB_3).trans PB_3_2, (hy.cell (p := ⟨w.heap.size, 3, none⟩) lPB_3).trans PB_3_3, (hy.cell (p := ⟨w.heap.size + 1, 0, none⟩) lRB_3).trans RB_3_0, (hy.cell (p := ⟨w.heap.size + 1, 1, none⟩) lRB_3).trans RB_3_1, (hy.cell (p := ⟨w.heap.size + 1, 2, none⟩) lRB_3).trans RB_3_2, (hy.cell (p := ⟨w.heap.size + 1, 3, none⟩) lRB_3).trans RB_3_3, (hy.cell (p := ⟨w.heap.size + 1, 4, none⟩) lRB_3).trans RB_3_4, (hy.cell (p := ⟨w.heap.size + 1, 5, none⟩) lRB_3).trans RB_3_5, (hy.cell (p := ⟨w.heap.size + 1, 6, none⟩) lRB_3).trans RB_3_6, (hy.cell (p := ⟨w.heap.size + 1, 7, none⟩) lRB_3).trans RB_3_7, (hy.cell (p := ⟨w.heap.size + 1, 8, none⟩) lRB_3).trans RB_3_8⟩
  refine wp_region_held_drew (S := (fun w' => w'.cell? ⟨w.heap.size, 0, none⟩ = some (.string nm) ∧ w'.cell? ⟨w.heap.size, 1, none⟩ = some (.int .i64 s) ∧ w'.cell? ⟨w.heap.size, 2, none⟩ = some (.slice A gn gc) ∧ w'.cell? ⟨w.heap.size, 3, none⟩ = some (.slice B dn dc) ∧ w'.cell? ⟨w.heap.size + 1, 0, none⟩ = some (.slice AT tn tc) ∧ w'.cell? ⟨w.heap.size + 1, 1, none⟩ = some (.int .i64 r.a) ∧ w'.cell? ⟨w.heap.size + 1, 2, none⟩ = some (.int .i64 r.b) ∧ w'.cell? ⟨w.heap.size + 1, 3, none⟩ = some (.int .i64 r.nc) ∧ w'.cell? ⟨w.heap.size + 1, 4, none⟩ = some (.int .i64 r.dn) ∧ w'.cell? ⟨w.heap.size + 1, 5, none⟩ = some (.int .i64 r.br) ∧ w'.cell? ⟨w.heap.size + 1, 6, none⟩ = some (.int .i64 r.em) ∧ w'.cell? ⟨w.heap.size + 1, 7, none⟩ = some (.int .i64 r.pa) ∧ w'.cell? ⟨w.heap.size + 1, 8, none⟩ = some (.int .i64 r.sc))) (by kernel_rfl) (HS.out _ (Below.refl _ _).drew) (fun hHeld => ?_)
  have hT0 : Below x3.heap.size x3 x3.drew := (Below.refl _ _).drew
  generalize hdr : x3.drew = y3v0 at *
  clear hdr
  refine tkH 0 ⟨some 25, _, _, _, _, _⟩ ?_ rfl ?_ (by assumption) ?_
  rotate_left
  · (intro w hSw; (try dsimp only at hSw); go_simp; all_goals with_reducible rfl)
  try simp only [Act.put, sA, sB, sC]
  refine tkH 2 ⟨some 27, _, _, _, _, _⟩ ?_ rfl ?_ (by assumption) ?_
  rotate_left
  · (intro w hSw; (try dsimp only at hSw); go_simp; all_goals with_reducible rfl)
  try simp only [Act.put, sA, sB, sC]
  refine wpAnyH_ready (rs := [1]) (by kernel_rfl) (by simp) ?_
  refine AllReadyH.cons rfl (fun K hK => ?_) (AllReadyH.nil)
  go_simp
  refine (copyP_is nm s G D A B gn gc dn dc _ hgn hdn hg6 hd6 (Lib.hid (hG.out.below (hB3.trans (hT0.mono hB3.size)))) (Lib.hid (hD.out.below (hB3.trans (hT0.mono hB3.size)))) CG CD).mono ?_
  rintro e y3v1 ⟨A1, ca1, B1, cb1, rfl, hsg, hsd, hna, hnb, hby3v0⟩
  have hT1 : Below x3.heap.size x3 y3v1 := hT0.trans (hby3v0.mono hT0.size)
  have HG1 := Lib.hid hsg
  have HD1 := Lib.hid hsd
  clear hsg hsd hna hnb
  clear hby3v0
  go_wp2_with fail
  refine hK.out _ _ (HS.out _ hT1) (fun hHeld => ?_)
  clear hK K
  try simp only [Act.put, sA, sB, sC]
  refine wpAnyH_ready (rs := [3]) (by kernel_rfl) (by simp) ?_
  refine AllReadyH.cons rfl (fun K hK => ?_) (AllReadyH.nil)
  go_simp
  refine (copyR_is T r AT tn tc _ htn ht6 (Lib.hid (hT.out.below (hB3.trans (hT1.mono hB3.size)))) CT).mono ?_
  rintro e y3v2 ⟨AT1, ct1, rfl, hst, hby3v1⟩
  have hT2 : Below x3.heap.size x3 y3v2 := hT1.trans (hby3v1.mono hT1.size)
  replace HG1 := Lib.hid (HG1.out.below hby3v1)
  replace HD1 := Lib.hid (HD1.out.below hby3v1)
  have HT1 := Lib.hid hst
  clear hst
  clear hby3v1
  go_wp2_with fail
  refine hK.out _ _ (HS.out _ hT2) (fun hHeld => ?_)
  clear hK K
  try simp only [Act.put, sA, sB, sC]
  refine wpAnyH_ready (rs := [4]) (by kernel_rfl) (by simp) ?_
  refine AllReadyH.cons rfl (fun K hK => ?_) (AllReadyH.nil)
  go_simp
  refine (cl_bad (ClockOf_any nm s G D A1 B1 gn ca1 dn cb1 N E0 T r AT1 tn ct1 E1 E0 _ hz hgn hgl hdn hdl HG1 HD1 hE0 htn htl HT1 hE1 hE) hne).mono ?_
  rintro e y3v3 ⟨rfl, hby3v2⟩
  have hT3 : Below x3.heap.size x3 y3v3 := hT2.trans (hby3v2.mono hT2.size)
  replace HG1 := Lib.hid (HG1.out.below hby3v2)
  replace HD1 := Lib.hid (HD1.out.below hby3v2)
  replace HT1 := Lib.hid (HT1.out.below hby3v2)
  clear hby3v2
  go_wp2_with fail
  refine hK.out _ _ (HS.out _ hT3) (fun hHeld => ?_)
  clear hK K
  try simp only [Act.put, sA, sB, sC]
  refine tkH 5 ⟨some 24, _, _, _, _, _⟩ ?_ rfl ?_ (by assumption) ?_
  rotate_left
  · (intro w hSw; (try dsimp only at hSw); go_simp; all_goals with_reducible rfl)
  try simp only [Act.put, sA, sB, sC]
  refine tkH 6 ⟨some 30, _, _, _, _, _⟩ ?_ rfl ?_ (by assumption) ?_
  rotate_left
  · (intro w hSw; (try dsimp only at hSw); go_simp; all_goals with_reducible rfl)
  try simp only [Act.put, sA, sB, sC]
  refine tkH 7 ⟨some 31, _, _, _, _, _⟩ ?_ rfl ?_ (by assumption) ?_
  rotate_left
  · (intro w hSw; (try dsimp only at hSw); go_simp; all_goals with_reducible rfl)
  try simp only [Act.put, sA, sB, sC]
  refine tkH 8 ⟨some 7, _, _, _, _, _⟩ ?_ rfl ?_ (by assumption) ?_
  rotate_left
  · (intro w hSw; (try dsimp only at hSw); go_simp; all_goals with_reducible rfl)
  try simp only [Act.put, sA, sB, sC]
  refine tkH 9 ⟨some 8, _, _, _, _, _⟩ ?_ rfl ?_ (by assumption) ?_
  rotate_left
  · (intro w hSw; (try dsimp only at hSw); go_simp; all_goals with_reducible rfl)
  try simp only [Act.put, sA, sB, sC]
  refine wpAnyH_done (by kernel_rfl) ?_ _
  have hc4 : Below x3.heap.size x3 y3v3 := hT3
  have hB4 : Below w.heap.size w y3v3 := hB3.trans (hc4.mono hB3.size)
  have zu4 := hB4.size
  replace PB := Lib.hid (PB.out.below hc4)
  replace RB := Lib.hid (RB.out.below hc4)
  clear PB_3_0 PB_3_1 PB_3_2 PB_3_3 lPB_3 nPB_3 mPB_3 RB_3_0 RB_3_1 RB_3_2 RB_3_3 RB_3_4 RB_3_5 RB_3_6 RB_3_7 RB_3_8 lRB_3 nRB_3 mRB_3
  clear HS hHeld hT0 hT1 hT2 hT3 hB3 zu3 hc3
  obtain ⟨PB_4_0, PB_4_1, PB_4_2, PB_4_3⟩ := b4 PB.out
  have lPB_4 := PB.out.lt
  have nPB_4 : y3v3.heap.size ≠ w.heap.size := by omega
  have mPB_4 : w.heap.size ≠ y3v3.heap.size := by omega
  obtain ⟨RB_4_0, RB_4_1, RB_4_2, RB_4_3, RB_4_4, RB_4_5, RB_4_6, RB_4_7, RB_4_8⟩ := b9 RB.out
  have lRB_4 := RB.out.lt
  have nRB_4 : y3v3.heap.size ≠ w.heap.size + 1 := by omega
  have mRB_4 : w.heap.size + 1 ≠ y3v3.heap.size := by omega
  clear HG1
  clear HD1
  clear HT1
  go_wp2_with fail
  refine (copyP_is nm s G D A B gn gc dn dc _ hgn hdn hg6 hd6 (Lib.hid (hG.out.below (by (repeat (first | (with_reducible refine Below.drew ?_) | (with_reducible refine below_drewN ?_ _) | (with_reducible refine Below.alloc ?_ (by first | omega | (simp; done) | (simp; omega) | (simp at *; omega)) _) | (with_reducible refine Below.setCell ?_ (by first | omega | (simp; done) | (simp; omega) | (simp at *; omega)) _) | (with_reducible exact Below.refl _ _) | (with_reducible assumption) | (with_reducible refine Below.trans ?_ (Below.mono (by assumption) (by first | omega | (simp; done) | (simp; omega) | (simp at *; omega))))))))) (Lib.hid (hD.out.below (by (repeat (first | (with_reducible refine Below.drew ?_) | (with_reducible refine below_drewN ?_ _) | (with_reducible refine Below.alloc ?_ (by first | omega | (simp; done) | (simp; omega) | (simp at *; omega)) _) | (with_reducible refine Below.setCell ?_ (by first | omega | (simp; done) | (simp; omega) | (simp at *; omega)) _) | (with_reducible exact Below.refl _ _) | (with_reducible assumption) | (with_reducible refine Below.trans ?_ (Below.mono (by assumption) (by first | omega | (simp; done) | (simp; omega) | (simp at *; omega))))))))) CG CD).mono ?_
  rintro e x5 ⟨A2, ca2, B2, cb2, rfl, hsg, hsd, hna, hnb, hb5⟩
  have hc5 : Below y3v3.heap.size y3v3 x5 := hb5
  have hB5 : Below w.heap.size w x5 := hB4.trans (hc5.mono hB4.size)
  have zu5 := hB5.size
  replace PB := Lib.hid (PB.out.below hc5)
  replace RB := Lib.hid (RB.out.below hc5)
  have HG2 := Lib.hid hsg
  have HD2 := Lib.hid hsd
  clear hsg hsd hna hnb
  clear PB_4_0 PB_4_1 PB_4_2 PB_4_3 lPB_4 nPB_4 mPB_4 RB_4_0 RB_4_1 RB_4_2 RB_4_3 RB_4_4 RB_4_5 RB_4_6 RB_4_7 RB_4_8 lRB_4 nRB_4 mRB_4
  clear hb5 hB4 zu4 hc4
  obtain ⟨PB_5_0, PB_5_1, PB_5_2, PB_5_3⟩ := b4 PB.out
  have lPB_5 := PB.out.lt
  have nPB_5 : x5.heap.size ≠ w.heap.size := by omega
  have mPB_5 : w.heap.size ≠ x5.heap.size := by omega
  obtain ⟨RB_5_0, RB_5_1, RB_5_2, RB_5_3, RB_5_4, RB_5_5, RB_5_6, RB_5_7, RB_5_8⟩ := b9 RB.out
  have lRB_5 := RB.out.lt
  have nRB_5 : x5.heap.size ≠ w.heap.size + 1 := by omega
  have mRB_5 : w.heap.size + 1 ≠ x5.heap.size := by omega
  go_wp2_with fail
  refine (cl_bad (OxygenOn_any nm s G D A2 B2 gn ca2 dn cb2 leg N E0 E0 _ hz hgn hgl hdn hdl HG2 HD2 hE0 hEx) hnx).mono ?_
  rintro e x6 ⟨rfl, hb6⟩
  have hc6 : Below x5.heap.size x5 x6 := hb6
  have hB6 : Below w.heap.size w x6 := hB5.trans (hc6.mono hB5.size)
  have zu6 := hB6.size
  replace HG2 := Lib.hid (HG2.out.below hc6)
  replace HD2 := Lib.hid (HD2.out.below hc6)
  replace PB := Lib.hid (PB.out.below hc6)
  replace RB := Lib.hid (RB.out.below hc6)
  clear PB_5_0 PB_5_1 PB_5_2 PB_5_3 lPB_5 nPB_5 mPB_5 RB_5_0 RB_5_1 RB_5_2 RB_5_3 RB_5_4 RB_5_5 RB_5_6 RB_5_7 RB_5_8 lRB_5 nRB_5 mRB_5
  clear hb6 hB5 zu5 hc5
  obtain ⟨PB_6_0, PB_6_1, PB_6_2, PB_6_3⟩ := b4 PB.out
  have lPB_6 := PB.out.lt
  have nPB_6 : x6.heap.size ≠ w.heap.size := by omega
  have mPB_6 : w.heap.size ≠ x6.heap.size := by omega
  obtain ⟨RB_6_0, RB_6_1, RB_6_2, RB_6_3, RB_6_4, RB_6_5, RB_6_6, RB_6_7, RB_6_8⟩ := b9 RB.out
  have lRB_6 := RB.out.lt
  have nRB_6 : x6.heap.size ≠ w.heap.size + 1 := by omega
  have mRB_6 : w.heap.size + 1 ≠ x6.heap.size := by omega
  clear HG2
  clear HD2
  go_wp2_with fail
  refine (refErr_any nm s G D A B gn gc dn dc N E0 _ hz6 hgn hgl hdn hdl (Lib.hid (hG.out.below (by (repeat (first | (with_reducible refine Below.drew ?_) | (with_reducible refine below_drewN ?_ _) | (with_reducible refine Below.alloc ?_ (by first | omega | (simp; done) | (simp; omega) | (simp at *; omega)) _) | (with_reducible refine Below.setCell ?_ (by first | omega | (simp; done) | (simp; omega) | (simp at *; omega)) _) | (with_reducible exact Below.refl _ _) | (with_reducible assumption) | (with_reducible refine Below.trans ?_ (Below.mono (by assumption) (by first | omega | (simp; done) | (simp; omega) | (simp at *; omega))))))))) (Lib.hid (hD.out.below (by (repeat (first | (with_reducible refine Below.drew ?_) | (with_reducible refine below_drewN ?_ _) | (with_reducible refine Below.alloc ?_ (by first | omega | (simp; done) | (simp; omega) | (simp at *; omega)) _) | (with_reducible refine Below.setCell ?_ (by first | omega | (simp; done) | (simp; omega) | (simp at *; omega)) _) | (with_reducible exact Below.refl _ _) | (with_reducible assumption) | (with_reducible refine Below.trans ?_ (Below.mono (by assumption) (by first | omega | (simp; done) | (simp; omega) | (simp at *; omega))))))))) hE0).mono ?_
  rintro e x7 ⟨rfl, hb7⟩
  have hc7 : Below x6.heap.size x6 x7 := ((Below.refl _ _).alloc (by first | exact Nat.le_refl _ | (simp; done) | (simp; omega)) _).trans (hb7.mono (by first | exact Nat.le_refl _ | (simp; done) | (simp; omega)))
  have hB7 : Below w.heap.size w x7 := hB6.trans (hc7.mono hB6.size)
  have zu7 := hB7.size
  replace PB := Lib.hid (PB.out.below hc7)
  replace RB := Lib.hid (RB.out.below hc7)
  have OB : Hid (BlkF x7 w.heap.size (x6.heap.size) [.int .i64 0, .int .i64 0]) := Lib.hid ((BlkF.made (B := w.heap.size) x6 [.int .i64 0, .int .i64 0] 47 (by first | exact Nat.le_refl _ | exact hB6.size | (simp; done) | (simp; omega))).below hb7)
  have zOB7 := OB.out.lt
  clear PB_6_0 PB_6_1 PB_6_2 PB_6_3 lPB_6 nPB_6 mPB_6 RB_6_0 RB_6_1 RB_6_2 RB_6_3 RB_6_4 RB_6_5 RB_6_6 RB_6_7 RB_6_8 lRB_6 nRB_6 mRB_6
  clear hb7 hB6 zu6 hc6
  obtain ⟨PB_7_0, PB_7_1, PB_7_2, PB_7_3⟩ := b4 PB.out
  have lPB_7 := PB.out.lt
  have nPB_7 : x7.heap.size ≠ w.heap.size := by omega
  have mPB_7 : w.heap.size ≠ x7.heap.size := by omega
  obtain ⟨RB_7_0, RB_7_1, RB_7_2, RB_7_3, RB_7_4, RB_7_5, RB_7_6, RB_7_7, RB_7_8⟩ := b9 RB.out
  have lRB_7 := RB.out.lt
  have nRB_7 : x7.heap.size ≠ w.heap.size + 1 := by omega
  have mRB_7 : w.heap.size + 1 ≠ x7.heap.size := by omega
  obtain ⟨OB_7_0, OB_7_1⟩ := b2 OB.out
  have lOB_7 := OB.out.lt
  have nOB_7 : x7.heap.size ≠ x6.heap.size := by omega
  have mOB_7 : x6.heap.size ≠ x7.heap.size := by omega
  go_upto_region 10 with (fail)
  have HS : Hid (∀ y, Below x7.heap.size x7 y → y.cell? ⟨w.heap.size, 0, none⟩ = some (.string nm) ∧ y.cell? ⟨w.heap.size, 1, none⟩ = some (.int .i64 s) ∧ y.cell? ⟨w.heap.size, 2, none⟩ = some (.slice A gn gc) ∧ y.cell? ⟨w.heap.size, 3, none⟩ = some (.slice B dn dc) ∧ y.cell? ⟨w.heap.size + 1, 0, none⟩ = some (.slice AT tn tc) ∧ y.cell? ⟨w.heap.size + 1, 1, none⟩ = some (.int .i64 r.a) ∧ y.cell? ⟨w.heap.size + 1, 2, none⟩ = some (.int .i64 r.b) ∧ y.cell? ⟨w.heap.size + 1, 3, none⟩ = some (.int .i64 r.nc) ∧ y.cell? ⟨w.heap.size + 1, 4, none⟩ = some (.int .i64 r.dn) ∧ y.cell? ⟨w.heap.size + 1, 5, none⟩ = some (.int .i64 r.br) ∧ y.cell? ⟨w.heap.size + 1, 6, none⟩ = some (.int .i64 r.em) ∧ y.cell? ⟨w.heap.size + 1, 7, none⟩ = some (.int .i64 r.pa) ∧ y.cell? ⟨w.heap.size + 1, 8, none⟩ = some (.int .i64 r.sc) ∧ y.cell? ⟨x6.heap.size, 0, none⟩ = some (.int .i64 0) ∧ y.cell? ⟨x6.heap.size, 1, none⟩ = some (.int .i64 0)) := Lib.hid fun y hy => ⟨(hy.cell (p := ⟨w.heap.size, 0, none⟩) lPB_7).trans PB_7_0, (hy.cell (p := ⟨w.heap.size, 1, none⟩) lPB_7).trans PB_7_1, (hy.cell (p := ⟨w.heap.size, 2, none⟩) lPB_7).trans PB_7_2, (hy.cell (p := ⟨w.heap.size, 3, none⟩) lPB_7).trans PB_7_3, (hy.cell (p := ⟨w.heap.size + 1, 0, none⟩) lRB_7).trans RB_7_0, (hy.cell (p := ⟨w.heap.size + 1, 1, none⟩) lRB_7).trans RB_7_1, (hy.cell (p := ⟨w.heap.size + 1, 2, none⟩) lRB_7).trans RB_7_2, (hy.cell (p := ⟨w.heap.size + 1, 3, none⟩) lRB_7).trans RB_7_3, (hy.cell (p := ⟨w.heap.size + 1, 4, none⟩) lRB_7).trans RB_7_4, (hy.cell (p := ⟨w.heap.size + 1, 5, none⟩) lRB_7).trans RB_7_5, (hy.cell (p := ⟨w.heap.size + 1, 6, none⟩) lRB_7).trans RB_7_6, (hy.cell (p := ⟨w.heap.size + 1, 7, none⟩) lRB_7).trans RB_7_7, (hy.cell (p := ⟨w.heap.size + 1, 8, none⟩) lRB_7).trans RB_7_8, (hy.cell (p := ⟨x6.heap.size, 0, none⟩) lOB_7).trans OB_7_0, (hy.cell (p := ⟨x6.heap.size, 1, none⟩) lOB_7).trans OB_7_1⟩
  refine wp_region_held_drew (S := (fun w' => w'.cell? ⟨w.heap.size, 0, none⟩ = some (.string nm) ∧ w'.cell? ⟨w.heap.size, 1, none⟩ = some (.int .i64 s) ∧ w'.cell? ⟨w.heap.size, 2, none⟩ = some (.slice A gn gc) ∧ w'.cell? ⟨w.heap.size, 3, none⟩ = some (.slice B dn dc) ∧ w'.cell? ⟨w.heap.size + 1, 0, none⟩ = some (.slice AT tn tc) ∧ w'.cell? ⟨w.heap.size + 1, 1, none⟩ = some (.int .i64 r.a) ∧ w'.cell? ⟨w.heap.size + 1, 2, none⟩ = some (.int .i64 r.b) ∧ w'.cell? ⟨w.heap.size + 1, 3, none⟩ = some (.int .i64 r.nc) ∧ w'.cell? ⟨w.heap.size + 1, 4, none⟩ = some (.int .i64 r.dn) ∧ w'.cell? ⟨w.heap.size + 1, 5, none⟩ = some (.int .i64 r.br) ∧ w'.cell? ⟨w.heap.size + 1, 6, none⟩ = some (.int .i64 r.em) ∧ w'.cell? ⟨w.heap.size + 1, 7, none⟩ = some (.int .i64 r.pa) ∧ w'.cell? ⟨w.heap.size + 1, 8, none⟩ = some (.int .i64 r.sc) ∧ w'.cell? ⟨x6.heap.size, 0, none⟩ = some (.int .i64 0) ∧ w'.cell? ⟨x6.heap.size, 1, none⟩ = some (.int .i64 0))) (by kernel_rfl) (HS.out _ (Below.refl _ _).drew) (fun hHeld => ?_)
  have hT0 : Below x7.heap.size x7 x7.drew := (Below.refl _ _).drew
  generalize hdr : x7.drew = y7v0 at *
  clear hdr
  refine tkH 0 ⟨some 52, _, _, _, _, _⟩ ?_ rfl ?_ (by assumption) ?_
  rotate_left
  · (intro w hSw; (try dsimp only at hSw); go_simp; all_goals with_reducible rfl)
  try simp only [Act.put, sA, sB, sC]
  refine tkH 1 ⟨some 53, _, _, _, _, _⟩ ?_ rfl ?_ (by assumption) ?_
  rotate_left
  · (intro w hSw; (try dsimp only at hSw); go_simp; (try simp only [hnb, hne0]); all_goals with_reducible rfl)
  try simp only [Act.put, sA, sB, sC]
  refine tkH 2 ⟨some 54, _, _, _, _, _⟩ ?_ rfl ?_ (by assumption) ?_
  rotate_left
  · (intro w hSw; (try dsimp only at hSw); go_simp; all_goals with_reducible rfl)
  try simp only [Act.put, sA, sB, sC]
  refine tkH 3 ⟨some 55, _, _, _, _, _⟩ ?_ rfl ?_ (by assumption) ?_
  rotate_left
  · (intro w hSw; (try dsimp only at hSw); go_simp; all_goals with_reducible rfl)
  try simp only [Act.put, sA, sB, sC]
  refine tkH 4 ⟨some 56, _, _, _, _, _⟩ ?_ rfl ?_ (by assumption) ?_
  rotate_left
  · (intro w hSw; (try dsimp only at hSw); go_simp; all_goals with_reducible rfl)
  try simp only [Act.put, sA, sB, sC]
  refine tkH 5 ⟨some 57, _, _, _, _, _⟩ ?_ rfl ?_ (by assumption) ?_
  rotate_left
  · (intro w hSw; (try dsimp only at hSw); go_simp; all_goals with_reducible rfl)
  try simp only [Act.put, sA, sB, sC]
  refine tkH 6 ⟨some 58, _, _, _, _, _⟩ ?_ rfl ?_ (by assumption) ?_
  rotate_left
  · (intro w hSw; (try dsimp only at hSw); go_simp; all_goals with_reducible rfl)
  try simp only [Act.put, sA, sB, sC]
  refine tkH 7 ⟨some 59, _, _, _, _, _⟩ ?_ rfl ?_ (by assumption) ?_
  rotate_left
  · (intro w hSw; (try dsimp only at hSw); go_simp; all_goals with_reducible rfl)
  try simp only [Act.put, sA, sB, sC]
  refine tkH 8 ⟨some 60, _, _, _, _, _⟩ ?_ rfl ?_ (by assumption) ?_
  rotate_left
  · (intro w hSw; (try dsimp only at hSw); go_simp; all_goals with_reducible rfl)
  try simp only [Act.put, sA, sB, sC]
  refine tkH 9 ⟨some 61, _, _, _, _, _⟩ ?_ rfl ?_ (by assumption) ?_
  rotate_left
  · (intro w hSw; (try dsimp only at hSw); go_simp; all_goals with_reducible rfl)
  try simp only [Act.put, sA, sB, sC]
  refine tkH 10 ⟨some 62, _, _, _, _, _⟩ ?_ rfl ?_ (by assumption) ?_
  rotate_left
  · (intro w hSw; (try dsimp only at hSw); go_simp; all_goals with_reducible rfl)
  try simp only [Act.put, sA, sB, sC]
  refine tkH 11 ⟨some 63, _, _, _, _, _⟩ ?_ rfl ?_ (by assumption) ?_
  rotate_left
  · (intro w hSw; (try dsimp only at hSw); go_simp; all_goals with_reducible rfl)
  try simp only [Act.put, sA, sB, sC]
  refine tkH 12 ⟨some 64, _, _, _, _, _⟩ ?_ rfl ?_ (by assumption) ?_
  rotate_left
  · (intro w hSw; (try dsimp only at hSw); go_simp; all_goals with_reducible rfl)
  try simp only [Act.put, sA, sB, sC]
  refine tkH 13 ⟨some 65, _, _, _, _, _⟩ ?_ rfl ?_ (by assumption) ?_
  rotate_left
  · (intro w hSw; (try dsimp only at hSw); go_simp; all_goals with_reducible rfl)
  try simp only [Act.put, sA, sB, sC]
  refine tkH 14 ⟨some 66, _, _, _, _, _⟩ ?_ rfl ?_ (by assumption) ?_
  rotate_left
  · (intro w hSw; (try dsimp only at hSw); go_simp; (try simp only [hnb, hne0]); all_goals with_reducible rfl)
  try simp only [Act.put, sA, sB, sC]
  refine tkH 15 ⟨some 67, _, _, _, _, _⟩ ?_ rfl ?_ (by assumption) ?_
  rotate_left
  · (intro w hSw; (try dsimp only at hSw); go_simp; all_goals with_reducible rfl)
  try simp only [Act.put, sA, sB, sC]
  refine skH 16 ⟨some 68, _, _, _, _, _⟩ rfl (by assumption) ?_
  try simp only [Act.put, sA, sB, sC]
  refine skH 17 ⟨some 69, _, _, _, _, _⟩ rfl (by assumption) ?_
  try simp only [Act.put, sA, sB, sC]
  refine skH 18 ⟨some 70, _, _, _, _, _⟩ rfl (by assumption) ?_
  try simp only [Act.put, sA, sB, sC]
  refine skH 19 ⟨some 71, _, _, _, _, _⟩ rfl (by assumption) ?_
  try simp only [Act.put, sA, sB, sC]
  refine skH 20 ⟨some 72, _, _, _, _, _⟩ rfl (by assumption) ?_
  try simp only [Act.put, sA, sB, sC]
  refine skH 21 ⟨some 73, _, _, _, _, _⟩ rfl (by assumption) ?_
  try simp only [Act.put, sA, sB, sC]
  refine skH 22 ⟨some 74, _, _, _, _, _⟩ rfl (by assumption) ?_
  try simp only [Act.put, sA, sB, sC]
  refine skH 23 ⟨some 75, _, _, _, _, _⟩ rfl (by assumption) ?_
  try simp only [Act.put, sA, sB, sC]
  refine skH 24 ⟨some 76, _, _, _, _, _⟩ rfl (by assumption) ?_
  try simp only [Act.put, sA, sB, sC]
  refine tkH 25 ⟨some 77, _, _, _, _, _⟩ ?_ rfl ?_ (by assumption) ?_
  rotate_left
  · (intro w hSw; (try dsimp only at hSw); go_simp; all_goals with_reducible rfl)
  try simp only [Act.put, sA, sB, sC]
  refine tkH 26 ⟨some 78, _, _, _, _, _⟩ ?_ rfl ?_ (by assumption) ?_
  rotate_left
  · (intro w hSw; (try dsimp only at hSw); go_simp; all_goals with_reducible rfl)
  try simp only [Act.put, sA, sB, sC]
  refine wpAnyH_done (by kernel_rfl) ?_ _
  have hc8 : Below x7.heap.size x7 y7v0 := hT0
  have hB8 : Below w.heap.size w y7v0 := hB7.trans (hc8.mono hB7.size)
  have zu8 := hB8.size
  replace PB := Lib.hid (PB.out.below hc8)
  replace RB := Lib.hid (RB.out.below hc8)
  replace OB := Lib.hid (OB.out.below hc8)
  clear PB_7_0 PB_7_1 PB_7_2 PB_7_3 lPB_7 nPB_7 mPB_7 RB_7_0 RB_7_1 RB_7_2 RB_7_3 RB_7_4 RB_7_5 RB_7_6 RB_7_7 RB_7_8 lRB_7 nRB_7 mRB_7 OB_7_0 OB_7_1 lOB_7 nOB_7 mOB_7
  clear HS hHeld hT0 hB7 zu7 hc7
  obtain ⟨PB_8_0, PB_8_1, PB_8_2, PB_8_3⟩ := b4 PB.out
  have lPB_8 := PB.out.lt
  have nPB_8 : y7v0.heap.size ≠ w.heap.size := by omega
  have mPB_8 : w.heap.size ≠ y7v0.heap.size := by omega
  obtain ⟨RB_8_0, RB_8_1, RB_8_2, RB_8_3, RB_8_4, RB_8_5, RB_8_6, RB_8_7, RB_8_8⟩ := b9 RB.out
  have lRB_8 := RB.out.lt
  have nRB_8 : y7v0.heap.size ≠ w.heap.size + 1 := by omega
  have mRB_8 : w.heap.size + 1 ≠ y7v0.heap.size := by omega
  obtain ⟨OB_8_0, OB_8_1⟩ := b2 OB.out
  have lOB_8 := OB.out.lt
  have nOB_8 : y7v0.heap.size ≠ x6.heap.size := by omega
  have mOB_8 : x6.heap.size ≠ y7v0.heap.size := by omega
  go_wp2_with fail
  refine (refBoth_any nm s G D A B gn gc dn dc T r AT tn tc N E0 E1 E0 _ hz6 hgn hgl hdn hdl (Lib.hid (hG.out.below (by (repeat (first | (with_reducible refine Below.drew ?_) | (with_reducible refine below_drewN ?_ _) | (with_reducible refine Below.alloc ?_ (by first | omega | (simp; done) | (simp; omega) | (simp at *; omega)) _) | (with_reducible refine Below.setCell ?_ (by first | omega | (simp; done) | (simp; omega) | (simp at *; omega)) _) | (with_reducible exact Below.refl _ _) | (with_reducible assumption) | (with_reducible refine Below.trans ?_ (Below.mono (by assumption) (by first | omega | (simp; done) | (simp; omega) | (simp at *; omega))))))))) (Lib.hid (hD.out.below (by (repeat (first | (with_reducible refine Below.drew ?_) | (with_reducible refine below_drewN ?_ _) | (with_reducible refine Below.alloc ?_ (by first | omega | (simp; done) | (simp; omega) | (simp at *; omega)) _) | (with_reducible refine Below.setCell ?_ (by first | omega | (simp; done) | (simp; omega) | (simp at *; omega)) _) | (with_reducible exact Below.refl _ _) | (with_reducible assumption) | (with_reducible refine Below.trans ?_ (Below.mono (by assumption) (by first | omega | (simp; done) | (simp; omega) | (simp at *; omega))))))))) hE0 htn htl (Lib.hid (hT.out.below (by (repeat (first | (with_reducible refine Below.drew ?_) | (with_reducible refine below_drewN ?_ _) | (with_reducible refine Below.alloc ?_ (by first | omega | (simp; done) | (simp; omega) | (simp at *; omega)) _) | (with_reducible refine Below.setCell ?_ (by first | omega | (simp; done) | (simp; omega) | (simp at *; omega)) _) | (with_reducible exact Below.refl _ _) | (with_reducible assumption) | (with_reducible refine Below.trans ?_ (Below.mono (by assumption) (by first | omega | (simp; done) | (simp; omega) | (simp at *; omega))))))))) hE1 hE).mono ?_
  rintro e x9 ⟨rfl, hb9⟩
  have hc9 : Below y7v0.heap.size y7v0 x9 := hb9
  have hB9 : Below w.heap.size w x9 := hB8.trans (hc9.mono hB8.size)
  have zu9 := hB9.size
  replace PB := Lib.hid (PB.out.below hc9)
  replace RB := Lib.hid (RB.out.below hc9)
  replace OB := Lib.hid (OB.out.below hc9)
  clear PB_8_0 PB_8_1 PB_8_2 PB_8_3 lPB_8 nPB_8 mPB_8 RB_8_0 RB_8_1 RB_8_2 RB_8_3 RB_8_4 RB_8_5 RB_8_6 RB_8_7 RB_8_8 lRB_8 nRB_8 mRB_8 OB_8_0 OB_8_1 lOB_8 nOB_8 mOB_8
  clear hb9 hB8 zu8 hc8
  obtain ⟨PB_9_0, PB_9_1, PB_9_2, PB_9_3⟩ := b4 PB.out
  have lPB_9 := PB.out.lt
  have nPB_9 : x9.heap.size ≠ w.heap.size := by omega
  have mPB_9 : w.heap.size ≠ x9.heap.size := by omega
  obtain ⟨RB_9_0, RB_9_1, RB_9_2, RB_9_3, RB_9_4, RB_9_5, RB_9_6, RB_9_7, RB_9_8⟩ := b9 RB.out
  have lRB_9 := RB.out.lt
  have nRB_9 : x9.heap.size ≠ w.heap.size + 1 := by omega
  have mRB_9 : w.heap.size + 1 ≠ x9.heap.size := by omega
  obtain ⟨OB_9_0, OB_9_1⟩ := b2 OB.out
  have lOB_9 := OB.out.lt
  have nOB_9 : x9.heap.size ≠ x6.heap.size := by omega
  have mOB_9 : x6.heap.size ≠ x9.heap.size := by omega
  go_wp2
  go_ret
  exact ⟨rfl, hB9⟩
set_option maxRecDepth 100000 in
set_option maxHeartbeats 8000000 in
theorem clk_lr (nm : ByteArray) (s : Int) (G : List Ga) (D : List Le) (A B : Option Addr) (gn gc dn dc : Nat) (T : List Ox) (r : Ru) (AT : Option Addr) (tn tc : Nat) (leg : Int) (N : Nat) (E1 : Int) (w : World) (hz : nm.size ≤ 9223372036854775807) (hgn : Hid (gn = G.length)) (hgl : gn ≤ 9223372036854775807) (hdn : Hid (dn = D.length)) (hdl : dn ≤ 9223372036854775807) (hG : Hid (SlRows gaV 2 w A G)) (hD : Hid (SlRows leV 3 w B D)) (CG : Hid (A = none → gn = 0 ∧ gc = 0)) (CD : Hid (B = none → dn = 0 ∧ dc = 0)) (htn : Hid (tn = T.length)) (htl : tn ≤ 9223372036854775807) (hT : Hid (SlRows oxV 2 w AT T)) (CT : Hid (AT = none → tn = 0 ∧ tc = 0)) (hS : Hid (shortB nm.size dn gn = true)) (hF : Hid (fewB tn = true)) (hE0 : Hid (plnP nm s G D = (N, 0))) (hE1 : Hid (ruE T r = E1)) (hE : Hid (firE [0, E1] = E1)) (hl : Hid (inB leg 0 ((dn : Int) - 1) = false)) (hEx : Hid (firE [0, lgE leg dn] = 6)) (hnx : ¬ (6 : Int) = 0) (hne : ¬ E1 = 0) (hnb1 : (E1 != 0) = true) (hne1 : (E1 == 0) = false) :
    Calls Try.prog 4 #[.agg #[.string nm, .int .i64 s, .slice A gn gc, .slice B dn dc], .agg #[.slice AT tn tc, .int .i64 r.a, .int .i64 r.b, .int .i64 r.nc, .int .i64 r.dn, .int .i64 r.br, .int .i64 r.em, .int .i64 r.pa, .int .i64 r.sc], .int .i64 leg] w fun e w' => e = .returned (.bool true) ∧ Below w.heap.size w w' := by
  have ww : IntKind.i64.wrap ((dn : Int) - 1) = dn - 1 := IntWalk.i64_in _ (by omega)
  have hsb := shortB_le hS.out
  have hz6 : nm.size ≤ 1000000 := by omega
  have hg6 : gn ≤ 1000000 := by omega
  have hd6 : dn ≤ 1000000 := by omega
  have ht22 : tn ≤ 22 := fewB_le hF.out
  have ht6 : tn ≤ 1000000 := by omega
  go_enter Try.func4, Try.ntmps4
  go_wp2_with fail
  refine (awake_any _).mono ?_
  rintro e x1 ⟨rfl, hb1⟩
  have hc1 : Below w.heap.size w x1 := (((Below.refl _ _).alloc (by first | exact Nat.le_refl _ | (simp; done) | (simp; omega)) _).alloc (by first | exact Nat.le_refl _ | (simp; done) | (simp; omega)) _).trans (hb1.mono (by first | exact Nat.le_refl _ | (simp; done) | (simp; omega)))
  have hB1 : Below w.heap.size w x1 := hc1
  have zu1 := hB1.size
  have PB : Hid (BlkF x1 w.heap.size (w.heap.size) [.string nm, .int .i64 s, .slice A gn gc, .slice B dn dc]) := Lib.hid (((BlkF.made (B := w.heap.size) w [.string nm, .int .i64 s, .slice A gn gc, .slice B dn dc] 40 (by first | exact Nat.le_refl _ | (simp; done) | (simp; omega))).below ((Below.refl _ _).alloc (Nat.le_refl _) _)).below hb1)
  have zPB1 := PB.out.lt
  have RB : Hid (BlkF x1 w.heap.size (w.heap.size + 1) [.slice AT tn tc, .int .i64 r.a, .int .i64 r.b, .int .i64 r.nc, .int .i64 r.dn, .int .i64 r.br, .int .i64 r.em, .int .i64 r.pa, .int .i64 r.sc]) := Lib.hid (by have := (BlkF.made (B := w.heap.size) (w.alloc (.cells #[.string nm, .int .i64 s, .slice A gn gc, .slice B dn dc] 40)) [.slice AT tn tc, .int .i64 r.a, .int .i64 r.b, .int .i64 r.nc, .int .i64 r.dn, .int .i64 r.br, .int .i64 r.em, .int .i64 r.pa, .int .i64 r.sc] 26 (by first | exact Nat.le_refl _ | (simp; done) | (simp; omega))).below hb1; simpa using this)
  have zRB1 := RB.out.lt
  clear hb1
  obtain ⟨PB_1_0, PB_1_1, PB_1_2, PB_1_3⟩ := b4 PB.out
  have lPB_1 := PB.out.lt
  have nPB_1 : x1.heap.size ≠ w.heap.size := by omega
  have mPB_1 : w.heap.size ≠ x1.heap.size := by omega
  obtain ⟨RB_1_0, RB_1_1, RB_1_2, RB_1_3, RB_1_4, RB_1_5, RB_1_6, RB_1_7, RB_1_8⟩ := b9 RB.out
  have lRB_1 := RB.out.lt
  have nRB_1 : x1.heap.size ≠ w.heap.size + 1 := by omega
  have mRB_1 : w.heap.size + 1 ≠ x1.heap.size := by omega
  go_wp2_with fail
  refine (Short_is nm s G D A B gn gc dn dc true _ hz hgl hdl hS).mono ?_
  rintro e x2 ⟨rfl, hb2⟩
  have hc2 : Below x1.heap.size x1 x2 := hb2
  have hB2 : Below w.heap.size w x2 := hB1.trans (hc2.mono hB1.size)
  have zu2 := hB2.size
  replace PB := Lib.hid (PB.out.below hc2)
  replace RB := Lib.hid (RB.out.below hc2)
  clear PB_1_0 PB_1_1 PB_1_2 PB_1_3 lPB_1 nPB_1 mPB_1 RB_1_0 RB_1_1 RB_1_2 RB_1_3 RB_1_4 RB_1_5 RB_1_6 RB_1_7 RB_1_8 lRB_1 nRB_1 mRB_1
  clear hb2 hB1 zu1 hc1
  obtain ⟨PB_2_0, PB_2_1, PB_2_2, PB_2_3⟩ := b4 PB.out
  have lPB_2 := PB.out.lt
  have nPB_2 : x2.heap.size ≠ w.heap.size := by omega
  have mPB_2 : w.heap.size ≠ x2.heap.size := by omega
  obtain ⟨RB_2_0, RB_2_1, RB_2_2, RB_2_3, RB_2_4, RB_2_5, RB_2_6, RB_2_7, RB_2_8⟩ := b9 RB.out
  have lRB_2 := RB.out.lt
  have nRB_2 : x2.heap.size ≠ w.heap.size + 1 := by omega
  have mRB_2 : w.heap.size + 1 ≠ x2.heap.size := by omega
  go_wp2_with fail
  refine (few_is r AT tn tc true _ htl hF).mono ?_
  rintro e x3 ⟨rfl, hb3⟩
  have hc3 : Below x2.heap.size x2 x3 := hb3
  have hB3 : Below w.heap.size w x3 := hB2.trans (hc3.mono hB2.size)
  have zu3 := hB3.size
  replace PB := Lib.hid (PB.out.below hc3)
  replace RB := Lib.hid (RB.out.below hc3)
  clear PB_2_0 PB_2_1 PB_2_2 PB_2_3 lPB_2 nPB_2 mPB_2 RB_2_0 RB_2_1 RB_2_2 RB_2_3 RB_2_4 RB_2_5 RB_2_6 RB_2_7 RB_2_8 lRB_2 nRB_2 mRB_2
  clear hb3 hB2 zu2 hc2
  obtain ⟨PB_3_0, PB_3_1, PB_3_2, PB_3_3⟩ := b4 PB.out
  have lPB_3 := PB.out.lt
  have nPB_3 : x3.heap.size ≠ w.heap.size := by omega
  have mPB_3 : w.heap.size ≠ x3.heap.size := by omega
  obtain ⟨RB_3_0, RB_3_1, RB_3_2, RB_3_3, RB_3_4, RB_3_5, RB_3_6, RB_3_7, RB_3_8⟩ := b9 RB.out
  have lRB_3 := RB.out.lt
  have nRB_3 : x3.heap.size ≠ w.heap.size + 1 := by omega
  have mRB_3 : w.heap.size + 1 ≠ x3.heap.size := by omega
  go_upto_region 5 with (fail)
  have HS : Hid (∀ y, Below x3.heap.size x3 y → y.cell? ⟨w.heap.size, 0, none⟩ = some (.string nm) ∧ y.cell? ⟨w.heap.size, 1, none⟩ = some (.int .i64 s) ∧ y.cell? ⟨w.heap.size, 2, none⟩ = some (.slice A gn gc) ∧ y.cell? ⟨w.heap.size, 3, none⟩ = some (.slice B dn dc) ∧ y.cell? ⟨w.heap.size + 1, 0, none⟩ = some (.slice AT tn tc) ∧ y.cell? ⟨w.heap.size + 1, 1, none⟩ = some (.int .i64 r.a) ∧ y.cell? ⟨w.heap.size + 1, 2, none⟩ = some (.int .i64 r.b) ∧ y.cell? ⟨w.heap.size + 1, 3, none⟩ = some (.int .i64 r.nc) ∧ y.cell? ⟨w.heap.size + 1, 4, none⟩ = some (.int .i64 r.dn) ∧ y.cell? ⟨w.heap.size + 1, 5, none⟩ = some (.int .i64 r.br) ∧ y.cell? ⟨w.heap.size + 1, 6, none⟩ = some (.int .i64 r.em) ∧ y.cell? ⟨w.heap.size + 1, 7, none⟩ = some (.int .i64 r.pa) ∧ y.cell? ⟨w.heap.size + 1, 8, none⟩ = some (.int .i64 r.sc)) := Lib.hid fun y hy => ⟨(hy.cell (p := ⟨w.heap.size, 0, none⟩) lPB_3).trans PB_3_0, (hy.cell (p := ⟨w.heap.size, 1, none⟩) lPB_3).trans PB_3_1, (hy.cell (p := ⟨w.heap.size, 2, none⟩) lPB_3).trans PB_3_2, (hy.cell (p := ⟨w.heap.size, 3, none⟩) lPB_3).trans PB_3_3, (hy.cell (p := ⟨w.heap.size + 1, 0, none⟩) lRB_3).trans RB_3_0, (hy.cell (p := ⟨w.heap.size + 1, 1, none⟩) lRB_3).trans RB_3_1, (hy.cell (p := ⟨w.heap.size + 1, 2, none⟩) lRB_3).trans RB_3_2, (hy.cell (p := ⟨w.heap.size + 1, 3, none⟩) lRB_3).trans RB_3_3, (hy.cell (p := ⟨w.heap.size + 1, 4, none⟩) lRB_3).trans RB_3_4, (hy.cell (p := ⟨w.heap.size + 1, 5, none⟩) lRB_3).trans RB_3_5, (hy.cell (p := ⟨w.heap.size + 1, 6, none⟩) lRB_3).trans RB_3_6, (hy.cell (p := ⟨w.heap.size + 1, 7, none⟩) lRB_3).trans RB_3_7, (hy.cell (p := ⟨w.heap.size + 1, 8, none⟩) lRB_3).trans RB_3_8⟩
  refine wp_region_held_drew (S := (fun w' => w'.cell? ⟨w.heap.size, 0, none⟩ = some (.string nm) ∧ w'.cell? ⟨w.heap.size, 1, none⟩ = some (.int .i64 s) ∧ w'.cell? ⟨w.heap.size, 2, none⟩ = some (.slice A gn gc) ∧ w'.cell? ⟨w.heap.size, 3, none⟩ = some (.slice B dn dc) ∧ w'.cell? ⟨w.heap.size + 1, 0, none⟩ = some (.slice AT tn tc) ∧ w'.cell? ⟨w.heap.size + 1, 1, none⟩ = some (.int .i64 r.a) ∧ w'.cell? ⟨w.heap.size + 1, 2, none⟩ = some (.int .i64 r.b) ∧ w'.cell? ⟨w.heap.size + 1, 3, none⟩ = some (.int .i64 r.nc) ∧ w'.cell? ⟨w.heap.size + 1, 4, none⟩ = some (.int .i64 r.dn) ∧ w'.cell? ⟨w.heap.size + 1, 5, none⟩ = some (.int .i64 r.br) ∧ w'.cell? ⟨w.heap.size + 1, 6, none⟩ = some (.int .i64 r.em) ∧ w'.cell? ⟨w.heap.size + 1, 7, none⟩ = some (.int .i64 r.pa) ∧ w'.cell? ⟨w.heap.size + 1, 8, none⟩ = some (.int .i64 r.sc))) (by kernel_rfl) (HS.out _ (Below.refl _ _).drew) (fun hHeld => ?_)
  have hT0 : Below x3.heap.size x3 x3.drew := (Below.refl _ _).drew
  generalize hdr : x3.drew = y3v0 at *
  clear hdr
  refine tkH 0 ⟨some 25, _, _, _, _, _⟩ ?_ rfl ?_ (by assumption) ?_
  rotate_left
  · (intro w hSw; (try dsimp only at hSw); go_simp; all_goals with_reducible rfl)
  try simp only [Act.put, sA, sB, sC]
  refine tkH 2 ⟨some 27, _, _, _, _, _⟩ ?_ rfl ?_ (by assumption) ?_
  rotate_left
  · (intro w hSw; (try dsimp only at hSw); go_simp; all_goals with_reducible rfl)
  try simp only [Act.put, sA, sB, sC]
  refine wpAnyH_ready (rs := [1]) (by kernel_rfl) (by simp) ?_
  refine AllReadyH.cons rfl (fun K hK => ?_) (AllReadyH.nil)
  go_simp
  refine (copyP_is nm s G D A B gn gc dn dc _ hgn hdn hg6 hd6 (Lib.hid (hG.out.below (hB3.trans (hT0.mono hB3.size)))) (Lib.hid (hD.out.below (hB3.trans (hT0.mono hB3.size)))) CG CD).mono ?_
  rintro e y3v1 ⟨A1, ca1, B1, cb1, rfl, hsg, hsd, hna, hnb, hby3v0⟩
  have hT1 : Below x3.heap.size x3 y3v1 := hT0.trans (hby3v0.mono hT0.size)
  have HG1 := Lib.hid hsg
  have HD1 := Lib.hid hsd
  clear hsg hsd hna hnb
  clear hby3v0
  go_wp2_with fail
  refine hK.out _ _ (HS.out _ hT1) (fun hHeld => ?_)
  clear hK K
  try simp only [Act.put, sA, sB, sC]
  refine wpAnyH_ready (rs := [3]) (by kernel_rfl) (by simp) ?_
  refine AllReadyH.cons rfl (fun K hK => ?_) (AllReadyH.nil)
  go_simp
  refine (copyR_is T r AT tn tc _ htn ht6 (Lib.hid (hT.out.below (hB3.trans (hT1.mono hB3.size)))) CT).mono ?_
  rintro e y3v2 ⟨AT1, ct1, rfl, hst, hby3v1⟩
  have hT2 : Below x3.heap.size x3 y3v2 := hT1.trans (hby3v1.mono hT1.size)
  replace HG1 := Lib.hid (HG1.out.below hby3v1)
  replace HD1 := Lib.hid (HD1.out.below hby3v1)
  have HT1 := Lib.hid hst
  clear hst
  clear hby3v1
  go_wp2_with fail
  refine hK.out _ _ (HS.out _ hT2) (fun hHeld => ?_)
  clear hK K
  try simp only [Act.put, sA, sB, sC]
  refine wpAnyH_ready (rs := [4]) (by kernel_rfl) (by simp) ?_
  refine AllReadyH.cons rfl (fun K hK => ?_) (AllReadyH.nil)
  go_simp
  refine (cl_bad (ClockOf_any nm s G D A1 B1 gn ca1 dn cb1 N 0 T r AT1 tn ct1 E1 E1 _ hz hgn hgl hdn hdl HG1 HD1 hE0 htn htl HT1 hE1 hE) hne).mono ?_
  rintro e y3v3 ⟨rfl, hby3v2⟩
  have hT3 : Below x3.heap.size x3 y3v3 := hT2.trans (hby3v2.mono hT2.size)
  replace HG1 := Lib.hid (HG1.out.below hby3v2)
  replace HD1 := Lib.hid (HD1.out.below hby3v2)
  replace HT1 := Lib.hid (HT1.out.below hby3v2)
  clear hby3v2
  go_wp2_with fail
  refine hK.out _ _ (HS.out _ hT3) (fun hHeld => ?_)
  clear hK K
  try simp only [Act.put, sA, sB, sC]
  refine tkH 5 ⟨some 24, _, _, _, _, _⟩ ?_ rfl ?_ (by assumption) ?_
  rotate_left
  · (intro w hSw; (try dsimp only at hSw); go_simp; all_goals with_reducible rfl)
  try simp only [Act.put, sA, sB, sC]
  refine tkH 6 ⟨some 30, _, _, _, _, _⟩ ?_ rfl ?_ (by assumption) ?_
  rotate_left
  · (intro w hSw; (try dsimp only at hSw); go_simp; all_goals with_reducible rfl)
  try simp only [Act.put, sA, sB, sC]
  refine tkH 7 ⟨some 31, _, _, _, _, _⟩ ?_ rfl ?_ (by assumption) ?_
  rotate_left
  · (intro w hSw; (try dsimp only at hSw); go_simp; all_goals with_reducible rfl)
  try simp only [Act.put, sA, sB, sC]
  refine tkH 8 ⟨some 7, _, _, _, _, _⟩ ?_ rfl ?_ (by assumption) ?_
  rotate_left
  · (intro w hSw; (try dsimp only at hSw); go_simp; all_goals with_reducible rfl)
  try simp only [Act.put, sA, sB, sC]
  refine tkH 9 ⟨some 8, _, _, _, _, _⟩ ?_ rfl ?_ (by assumption) ?_
  rotate_left
  · (intro w hSw; (try dsimp only at hSw); go_simp; all_goals with_reducible rfl)
  try simp only [Act.put, sA, sB, sC]
  refine wpAnyH_done (by kernel_rfl) ?_ _
  have hc4 : Below x3.heap.size x3 y3v3 := hT3
  have hB4 : Below w.heap.size w y3v3 := hB3.trans (hc4.mono hB3.size)
  have zu4 := hB4.size
  replace PB := Lib.hid (PB.out.below hc4)
  replace RB := Lib.hid (RB.out.below hc4)
  clear PB_3_0 PB_3_1 PB_3_2 PB_3_3 lPB_3 nPB_3 mPB_3 RB_3_0 RB_3_1 RB_3_2 RB_3_3 RB_3_4 RB_3_5 RB_3_6 RB_3_7 RB_3_8 lRB_3 nRB_3 mRB_3
  clear HS hHeld hT0 hT1 hT2 hT3 hB3 zu3 hc3
  obtain ⟨PB_4_0, PB_4_1, PB_4_2, PB_4_3⟩ := b4 PB.out
  have lPB_4 := PB.out.lt
  have nPB_4 : y3v3.heap.size ≠ w.heap.size := by omega
  have mPB_4 : w.heap.size ≠ y3v3.heap.size := by omega
  obtain ⟨RB_4_0, RB_4_1, RB_4_2, RB_4_3, RB_4_4, RB_4_5, RB_4_6, RB_4_7, RB_4_8⟩ := b9 RB.out
  have lRB_4 := RB.out.lt
  have nRB_4 : y3v3.heap.size ≠ w.heap.size + 1 := by omega
  have mRB_4 : w.heap.size + 1 ≠ y3v3.heap.size := by omega
  clear HG1
  clear HD1
  clear HT1
  go_wp2_with fail
  refine (copyP_is nm s G D A B gn gc dn dc _ hgn hdn hg6 hd6 (Lib.hid (hG.out.below (by (repeat (first | (with_reducible refine Below.drew ?_) | (with_reducible refine below_drewN ?_ _) | (with_reducible refine Below.alloc ?_ (by first | omega | (simp; done) | (simp; omega) | (simp at *; omega)) _) | (with_reducible refine Below.setCell ?_ (by first | omega | (simp; done) | (simp; omega) | (simp at *; omega)) _) | (with_reducible exact Below.refl _ _) | (with_reducible assumption) | (with_reducible refine Below.trans ?_ (Below.mono (by assumption) (by first | omega | (simp; done) | (simp; omega) | (simp at *; omega))))))))) (Lib.hid (hD.out.below (by (repeat (first | (with_reducible refine Below.drew ?_) | (with_reducible refine below_drewN ?_ _) | (with_reducible refine Below.alloc ?_ (by first | omega | (simp; done) | (simp; omega) | (simp at *; omega)) _) | (with_reducible refine Below.setCell ?_ (by first | omega | (simp; done) | (simp; omega) | (simp at *; omega)) _) | (with_reducible exact Below.refl _ _) | (with_reducible assumption) | (with_reducible refine Below.trans ?_ (Below.mono (by assumption) (by first | omega | (simp; done) | (simp; omega) | (simp at *; omega))))))))) CG CD).mono ?_
  rintro e x5 ⟨A2, ca2, B2, cb2, rfl, hsg, hsd, hna, hnb, hb5⟩
  have hc5 : Below y3v3.heap.size y3v3 x5 := hb5
  have hB5 : Below w.heap.size w x5 := hB4.trans (hc5.mono hB4.size)
  have zu5 := hB5.size
  replace PB := Lib.hid (PB.out.below hc5)
  replace RB := Lib.hid (RB.out.below hc5)
  have HG2 := Lib.hid hsg
  have HD2 := Lib.hid hsd
  clear hsg hsd hna hnb
  clear PB_4_0 PB_4_1 PB_4_2 PB_4_3 lPB_4 nPB_4 mPB_4 RB_4_0 RB_4_1 RB_4_2 RB_4_3 RB_4_4 RB_4_5 RB_4_6 RB_4_7 RB_4_8 lRB_4 nRB_4 mRB_4
  clear hb5 hB4 zu4 hc4
  obtain ⟨PB_5_0, PB_5_1, PB_5_2, PB_5_3⟩ := b4 PB.out
  have lPB_5 := PB.out.lt
  have nPB_5 : x5.heap.size ≠ w.heap.size := by omega
  have mPB_5 : w.heap.size ≠ x5.heap.size := by omega
  obtain ⟨RB_5_0, RB_5_1, RB_5_2, RB_5_3, RB_5_4, RB_5_5, RB_5_6, RB_5_7, RB_5_8⟩ := b9 RB.out
  have lRB_5 := RB.out.lt
  have nRB_5 : x5.heap.size ≠ w.heap.size + 1 := by omega
  have mRB_5 : w.heap.size + 1 ≠ x5.heap.size := by omega
  go_wp2_with fail
  refine (cl_bad (OxygenOn_any nm s G D A2 B2 gn ca2 dn cb2 leg N 0 6 _ hz hgn hgl hdn hdl HG2 HD2 hE0 hEx) hnx).mono ?_
  rintro e x6 ⟨rfl, hb6⟩
  have hc6 : Below x5.heap.size x5 x6 := hb6
  have hB6 : Below w.heap.size w x6 := hB5.trans (hc6.mono hB5.size)
  have zu6 := hB6.size
  replace HG2 := Lib.hid (HG2.out.below hc6)
  replace HD2 := Lib.hid (HD2.out.below hc6)
  replace PB := Lib.hid (PB.out.below hc6)
  replace RB := Lib.hid (RB.out.below hc6)
  clear PB_5_0 PB_5_1 PB_5_2 PB_5_3 lPB_5 nPB_5 mPB_5 RB_5_0 RB_5_1 RB_5_2 RB_5_3 RB_5_4 RB_5_5 RB_5_6 RB_5_7 RB_5_8 lRB_5 nRB_5 mRB_5
  clear hb6 hB5 zu5 hc5
  obtain ⟨PB_6_0, PB_6_1, PB_6_2, PB_6_3⟩ := b4 PB.out
  have lPB_6 := PB.out.lt
  have nPB_6 : x6.heap.size ≠ w.heap.size := by omega
  have mPB_6 : w.heap.size ≠ x6.heap.size := by omega
  obtain ⟨RB_6_0, RB_6_1, RB_6_2, RB_6_3, RB_6_4, RB_6_5, RB_6_6, RB_6_7, RB_6_8⟩ := b9 RB.out
  have lRB_6 := RB.out.lt
  have nRB_6 : x6.heap.size ≠ w.heap.size + 1 := by omega
  have mRB_6 : w.heap.size + 1 ≠ x6.heap.size := by omega
  clear HG2
  clear HD2
  go_wp2_with fail
  refine (refErr_any nm s G D A B gn gc dn dc N 0 _ hz6 hgn hgl hdn hdl (Lib.hid (hG.out.below (by (repeat (first | (with_reducible refine Below.drew ?_) | (with_reducible refine below_drewN ?_ _) | (with_reducible refine Below.alloc ?_ (by first | omega | (simp; done) | (simp; omega) | (simp at *; omega)) _) | (with_reducible refine Below.setCell ?_ (by first | omega | (simp; done) | (simp; omega) | (simp at *; omega)) _) | (with_reducible exact Below.refl _ _) | (with_reducible assumption) | (with_reducible refine Below.trans ?_ (Below.mono (by assumption) (by first | omega | (simp; done) | (simp; omega) | (simp at *; omega))))))))) (Lib.hid (hD.out.below (by (repeat (first | (with_reducible refine Below.drew ?_) | (with_reducible refine below_drewN ?_ _) | (with_reducible refine Below.alloc ?_ (by first | omega | (simp; done) | (simp; omega) | (simp at *; omega)) _) | (with_reducible refine Below.setCell ?_ (by first | omega | (simp; done) | (simp; omega) | (simp at *; omega)) _) | (with_reducible exact Below.refl _ _) | (with_reducible assumption) | (with_reducible refine Below.trans ?_ (Below.mono (by assumption) (by first | omega | (simp; done) | (simp; omega) | (simp at *; omega))))))))) hE0).mono ?_
  rintro e x7 ⟨rfl, hb7⟩
  have hc7 : Below x6.heap.size x6 x7 := ((Below.refl _ _).alloc (by first | exact Nat.le_refl _ | (simp; done) | (simp; omega)) _).trans (hb7.mono (by first | exact Nat.le_refl _ | (simp; done) | (simp; omega)))
  have hB7 : Below w.heap.size w x7 := hB6.trans (hc7.mono hB6.size)
  have zu7 := hB7.size
  replace PB := Lib.hid (PB.out.below hc7)
  replace RB := Lib.hid (RB.out.below hc7)
  have OB : Hid (BlkF x7 w.heap.size (x6.heap.size) [.int .i64 0, .int .i64 0]) := Lib.hid ((BlkF.made (B := w.heap.size) x6 [.int .i64 0, .int .i64 0] 47 (by first | exact Nat.le_refl _ | exact hB6.size | (simp; done) | (simp; omega))).below hb7)
  have zOB7 := OB.out.lt
  clear PB_6_0 PB_6_1 PB_6_2 PB_6_3 lPB_6 nPB_6 mPB_6 RB_6_0 RB_6_1 RB_6_2 RB_6_3 RB_6_4 RB_6_5 RB_6_6 RB_6_7 RB_6_8 lRB_6 nRB_6 mRB_6
  clear hb7 hB6 zu6 hc6
  obtain ⟨PB_7_0, PB_7_1, PB_7_2, PB_7_3⟩ := b4 PB.out
  have lPB_7 := PB.out.lt
  have nPB_7 : x7.heap.size ≠ w.heap.size := by omega
  have mPB_7 : w.heap.size ≠ x7.heap.size := by omega
  obtain ⟨RB_7_0, RB_7_1, RB_7_2, RB_7_3, RB_7_4, RB_7_5, RB_7_6, RB_7_7, RB_7_8⟩ := b9 RB.out
  have lRB_7 := RB.out.lt
  have nRB_7 : x7.heap.size ≠ w.heap.size + 1 := by omega
  have mRB_7 : w.heap.size + 1 ≠ x7.heap.size := by omega
  obtain ⟨OB_7_0, OB_7_1⟩ := b2 OB.out
  have lOB_7 := OB.out.lt
  have nOB_7 : x7.heap.size ≠ x6.heap.size := by omega
  have mOB_7 : x6.heap.size ≠ x7.heap.size := by omega
  go_upto_region 10 with (((go_at_call 20; ((with_reducible refine (bW_r _ _ _ _ _ hl).mono ?_)); rintro e w' ⟨rfl, rfl⟩)))
  have HS : Hid (∀ y, Below x7.heap.size x7 y → y.cell? ⟨w.heap.size, 0, none⟩ = some (.string nm) ∧ y.cell? ⟨w.heap.size, 1, none⟩ = some (.int .i64 s) ∧ y.cell? ⟨w.heap.size, 2, none⟩ = some (.slice A gn gc) ∧ y.cell? ⟨w.heap.size, 3, none⟩ = some (.slice B dn dc) ∧ y.cell? ⟨w.heap.size + 1, 0, none⟩ = some (.slice AT tn tc) ∧ y.cell? ⟨w.heap.size + 1, 1, none⟩ = some (.int .i64 r.a) ∧ y.cell? ⟨w.heap.size + 1, 2, none⟩ = some (.int .i64 r.b) ∧ y.cell? ⟨w.heap.size + 1, 3, none⟩ = some (.int .i64 r.nc) ∧ y.cell? ⟨w.heap.size + 1, 4, none⟩ = some (.int .i64 r.dn) ∧ y.cell? ⟨w.heap.size + 1, 5, none⟩ = some (.int .i64 r.br) ∧ y.cell? ⟨w.heap.size + 1, 6, none⟩ = some (.int .i64 r.em) ∧ y.cell? ⟨w.heap.size + 1, 7, none⟩ = some (.int .i64 r.pa) ∧ y.cell? ⟨w.heap.size + 1, 8, none⟩ = some (.int .i64 r.sc) ∧ y.cell? ⟨x6.heap.size, 0, none⟩ = some (.int .i64 0) ∧ y.cell? ⟨x6.heap.size, 1, none⟩ = some (.int .i64 0)) := Lib.hid fun y hy => ⟨(hy.cell (p := ⟨w.heap.size, 0, none⟩) lPB_7).trans PB_7_0, (hy.cell (p := ⟨w.heap.size, 1, none⟩) lPB_7).trans PB_7_1, (hy.cell (p := ⟨w.heap.size, 2, none⟩) lPB_7).trans PB_7_2, (hy.cell (p := ⟨w.heap.size, 3, none⟩) lPB_7).trans PB_7_3, (hy.cell (p := ⟨w.heap.size + 1, 0, none⟩) lRB_7).trans RB_7_0, (hy.cell (p := ⟨w.heap.size + 1, 1, none⟩) lRB_7).trans RB_7_1, (hy.cell (p := ⟨w.heap.size + 1, 2, none⟩) lRB_7).trans RB_7_2, (hy.cell (p := ⟨w.heap.size + 1, 3, none⟩) lRB_7).trans RB_7_3, (hy.cell (p := ⟨w.heap.size + 1, 4, none⟩) lRB_7).trans RB_7_4, (hy.cell (p := ⟨w.heap.size + 1, 5, none⟩) lRB_7).trans RB_7_5, (hy.cell (p := ⟨w.heap.size + 1, 6, none⟩) lRB_7).trans RB_7_6, (hy.cell (p := ⟨w.heap.size + 1, 7, none⟩) lRB_7).trans RB_7_7, (hy.cell (p := ⟨w.heap.size + 1, 8, none⟩) lRB_7).trans RB_7_8, (hy.cell (p := ⟨x6.heap.size, 0, none⟩) lOB_7).trans OB_7_0, (hy.cell (p := ⟨x6.heap.size, 1, none⟩) lOB_7).trans OB_7_1⟩
  refine wp_region_held_drew (S := (fun w' => w'.cell? ⟨w.heap.size, 0, none⟩ = some (.string nm) ∧ w'.cell? ⟨w.heap.size, 1, none⟩ = some (.int .i64 s) ∧ w'.cell? ⟨w.heap.size, 2, none⟩ = some (.slice A gn gc) ∧ w'.cell? ⟨w.heap.size, 3, none⟩ = some (.slice B dn dc) ∧ w'.cell? ⟨w.heap.size + 1, 0, none⟩ = some (.slice AT tn tc) ∧ w'.cell? ⟨w.heap.size + 1, 1, none⟩ = some (.int .i64 r.a) ∧ w'.cell? ⟨w.heap.size + 1, 2, none⟩ = some (.int .i64 r.b) ∧ w'.cell? ⟨w.heap.size + 1, 3, none⟩ = some (.int .i64 r.nc) ∧ w'.cell? ⟨w.heap.size + 1, 4, none⟩ = some (.int .i64 r.dn) ∧ w'.cell? ⟨w.heap.size + 1, 5, none⟩ = some (.int .i64 r.br) ∧ w'.cell? ⟨w.heap.size + 1, 6, none⟩ = some (.int .i64 r.em) ∧ w'.cell? ⟨w.heap.size + 1, 7, none⟩ = some (.int .i64 r.pa) ∧ w'.cell? ⟨w.heap.size + 1, 8, none⟩ = some (.int .i64 r.sc) ∧ w'.cell? ⟨x6.heap.size, 0, none⟩ = some (.int .i64 0) ∧ w'.cell? ⟨x6.heap.size, 1, none⟩ = some (.int .i64 0))) (by kernel_rfl) (HS.out _ (Below.refl _ _).drew) (fun hHeld => ?_)
  have hT0 : Below x7.heap.size x7 x7.drew := (Below.refl _ _).drew
  generalize hdr : x7.drew = y7v0 at *
  clear hdr
  refine tkH 0 ⟨some 52, _, _, _, _, _⟩ ?_ rfl ?_ (by assumption) ?_
  rotate_left
  · (intro w hSw; (try dsimp only at hSw); go_simp; all_goals with_reducible rfl)
  try simp only [Act.put, sA, sB, sC]
  refine tkH 1 ⟨some 53, _, _, _, _, _⟩ ?_ rfl ?_ (by assumption) ?_
  rotate_left
  · (intro w hSw; (try dsimp only at hSw); go_simp; all_goals with_reducible rfl)
  try simp only [Act.put, sA, sB, sC]
  refine tkH 2 ⟨some 54, _, _, _, _, _⟩ ?_ rfl ?_ (by assumption) ?_
  rotate_left
  · (intro w hSw; (try dsimp only at hSw); go_simp; all_goals with_reducible rfl)
  try simp only [Act.put, sA, sB, sC]
  refine tkH 3 ⟨some 55, _, _, _, _, _⟩ ?_ rfl ?_ (by assumption) ?_
  rotate_left
  · (intro w hSw; (try dsimp only at hSw); go_simp; all_goals with_reducible rfl)
  try simp only [Act.put, sA, sB, sC]
  refine tkH 4 ⟨some 56, _, _, _, _, _⟩ ?_ rfl ?_ (by assumption) ?_
  rotate_left
  · (intro w hSw; (try dsimp only at hSw); go_simp; all_goals with_reducible rfl)
  try simp only [Act.put, sA, sB, sC]
  refine tkH 5 ⟨some 57, _, _, _, _, _⟩ ?_ rfl ?_ (by assumption) ?_
  rotate_left
  · (intro w hSw; (try dsimp only at hSw); go_simp; all_goals with_reducible rfl)
  try simp only [Act.put, sA, sB, sC]
  refine tkH 6 ⟨some 58, _, _, _, _, _⟩ ?_ rfl ?_ (by assumption) ?_
  rotate_left
  · (intro w hSw; (try dsimp only at hSw); go_simp; all_goals with_reducible rfl)
  try simp only [Act.put, sA, sB, sC]
  refine tkH 7 ⟨some 59, _, _, _, _, _⟩ ?_ rfl ?_ (by assumption) ?_
  rotate_left
  · (intro w hSw; (try dsimp only at hSw); go_simp; all_goals with_reducible rfl)
  try simp only [Act.put, sA, sB, sC]
  refine tkH 8 ⟨some 60, _, _, _, _, _⟩ ?_ rfl ?_ (by assumption) ?_
  rotate_left
  · (intro w hSw; (try dsimp only at hSw); go_simp; all_goals with_reducible rfl)
  try simp only [Act.put, sA, sB, sC]
  refine tkH 9 ⟨some 61, _, _, _, _, _⟩ ?_ rfl ?_ (by assumption) ?_
  rotate_left
  · (intro w hSw; (try dsimp only at hSw); go_simp; all_goals with_reducible rfl)
  try simp only [Act.put, sA, sB, sC]
  refine tkH 10 ⟨some 62, _, _, _, _, _⟩ ?_ rfl ?_ (by assumption) ?_
  rotate_left
  · (intro w hSw; (try dsimp only at hSw); go_simp; all_goals with_reducible rfl)
  try simp only [Act.put, sA, sB, sC]
  refine tkH 11 ⟨some 63, _, _, _, _, _⟩ ?_ rfl ?_ (by assumption) ?_
  rotate_left
  · (intro w hSw; (try dsimp only at hSw); go_simp; all_goals with_reducible rfl)
  try simp only [Act.put, sA, sB, sC]
  refine tkH 12 ⟨some 64, _, _, _, _, _⟩ ?_ rfl ?_ (by assumption) ?_
  rotate_left
  · (intro w hSw; (try dsimp only at hSw); go_simp; all_goals with_reducible rfl)
  try simp only [Act.put, sA, sB, sC]
  refine tkH 13 ⟨some 65, _, _, _, _, _⟩ ?_ rfl ?_ (by assumption) ?_
  rotate_left
  · (intro w hSw; (try dsimp only at hSw); go_simp; all_goals with_reducible rfl)
  try simp only [Act.put, sA, sB, sC]
  refine tkH 14 ⟨some 66, _, _, _, _, _⟩ ?_ rfl ?_ (by assumption) ?_
  rotate_left
  · (intro w hSw; (try dsimp only at hSw); go_simp; all_goals with_reducible rfl)
  try simp only [Act.put, sA, sB, sC]
  refine tkH 15 ⟨some 67, _, _, _, _, _⟩ ?_ rfl ?_ (by assumption) ?_
  rotate_left
  · (intro w hSw; (try dsimp only at hSw); go_simp; all_goals with_reducible rfl)
  try simp only [Act.put, sA, sB, sC]
  refine skH 16 ⟨some 68, _, _, _, _, _⟩ rfl (by assumption) ?_
  try simp only [Act.put, sA, sB, sC]
  refine skH 17 ⟨some 69, _, _, _, _, _⟩ rfl (by assumption) ?_
  try simp only [Act.put, sA, sB, sC]
  refine skH 18 ⟨some 70, _, _, _, _, _⟩ rfl (by assumption) ?_
  try simp only [Act.put, sA, sB, sC]
  refine skH 19 ⟨some 71, _, _, _, _, _⟩ rfl (by assumption) ?_
  try simp only [Act.put, sA, sB, sC]
  refine skH 20 ⟨some 72, _, _, _, _, _⟩ rfl (by assumption) ?_
  try simp only [Act.put, sA, sB, sC]
  refine skH 21 ⟨some 73, _, _, _, _, _⟩ rfl (by assumption) ?_
  try simp only [Act.put, sA, sB, sC]
  refine skH 22 ⟨some 74, _, _, _, _, _⟩ rfl (by assumption) ?_
  try simp only [Act.put, sA, sB, sC]
  refine skH 23 ⟨some 75, _, _, _, _, _⟩ rfl (by assumption) ?_
  try simp only [Act.put, sA, sB, sC]
  refine skH 24 ⟨some 76, _, _, _, _, _⟩ rfl (by assumption) ?_
  try simp only [Act.put, sA, sB, sC]
  refine tkH 25 ⟨some 77, _, _, _, _, _⟩ ?_ rfl ?_ (by assumption) ?_
  rotate_left
  · (intro w hSw; (try dsimp only at hSw); go_simp; all_goals with_reducible rfl)
  try simp only [Act.put, sA, sB, sC]
  refine tkH 26 ⟨some 78, _, _, _, _, _⟩ ?_ rfl ?_ (by assumption) ?_
  rotate_left
  · (intro w hSw; (try dsimp only at hSw); go_simp; all_goals with_reducible rfl)
  try simp only [Act.put, sA, sB, sC]
  refine wpAnyH_done (by kernel_rfl) ?_ _
  have hc8 : Below x7.heap.size x7 y7v0 := hT0
  have hB8 : Below w.heap.size w y7v0 := hB7.trans (hc8.mono hB7.size)
  have zu8 := hB8.size
  replace PB := Lib.hid (PB.out.below hc8)
  replace RB := Lib.hid (RB.out.below hc8)
  replace OB := Lib.hid (OB.out.below hc8)
  clear PB_7_0 PB_7_1 PB_7_2 PB_7_3 lPB_7 nPB_7 mPB_7 RB_7_0 RB_7_1 RB_7_2 RB_7_3 RB_7_4 RB_7_5 RB_7_6 RB_7_7 RB_7_8 lRB_7 nRB_7 mRB_7 OB_7_0 OB_7_1 lOB_7 nOB_7 mOB_7
  clear HS hHeld hT0 hB7 zu7 hc7
  obtain ⟨PB_8_0, PB_8_1, PB_8_2, PB_8_3⟩ := b4 PB.out
  have lPB_8 := PB.out.lt
  have nPB_8 : y7v0.heap.size ≠ w.heap.size := by omega
  have mPB_8 : w.heap.size ≠ y7v0.heap.size := by omega
  obtain ⟨RB_8_0, RB_8_1, RB_8_2, RB_8_3, RB_8_4, RB_8_5, RB_8_6, RB_8_7, RB_8_8⟩ := b9 RB.out
  have lRB_8 := RB.out.lt
  have nRB_8 : y7v0.heap.size ≠ w.heap.size + 1 := by omega
  have mRB_8 : w.heap.size + 1 ≠ y7v0.heap.size := by omega
  obtain ⟨OB_8_0, OB_8_1⟩ := b2 OB.out
  have lOB_8 := OB.out.lt
  have nOB_8 : y7v0.heap.size ≠ x6.heap.size := by omega
  have mOB_8 : x6.heap.size ≠ y7v0.heap.size := by omega
  go_wp2_with fail
  refine (refBoth_any nm s G D A B gn gc dn dc T r AT tn tc N 0 E1 E1 _ hz6 hgn hgl hdn hdl (Lib.hid (hG.out.below (by (repeat (first | (with_reducible refine Below.drew ?_) | (with_reducible refine below_drewN ?_ _) | (with_reducible refine Below.alloc ?_ (by first | omega | (simp; done) | (simp; omega) | (simp at *; omega)) _) | (with_reducible refine Below.setCell ?_ (by first | omega | (simp; done) | (simp; omega) | (simp at *; omega)) _) | (with_reducible exact Below.refl _ _) | (with_reducible assumption) | (with_reducible refine Below.trans ?_ (Below.mono (by assumption) (by first | omega | (simp; done) | (simp; omega) | (simp at *; omega))))))))) (Lib.hid (hD.out.below (by (repeat (first | (with_reducible refine Below.drew ?_) | (with_reducible refine below_drewN ?_ _) | (with_reducible refine Below.alloc ?_ (by first | omega | (simp; done) | (simp; omega) | (simp at *; omega)) _) | (with_reducible refine Below.setCell ?_ (by first | omega | (simp; done) | (simp; omega) | (simp at *; omega)) _) | (with_reducible exact Below.refl _ _) | (with_reducible assumption) | (with_reducible refine Below.trans ?_ (Below.mono (by assumption) (by first | omega | (simp; done) | (simp; omega) | (simp at *; omega))))))))) hE0 htn htl (Lib.hid (hT.out.below (by (repeat (first | (with_reducible refine Below.drew ?_) | (with_reducible refine below_drewN ?_ _) | (with_reducible refine Below.alloc ?_ (by first | omega | (simp; done) | (simp; omega) | (simp at *; omega)) _) | (with_reducible refine Below.setCell ?_ (by first | omega | (simp; done) | (simp; omega) | (simp at *; omega)) _) | (with_reducible exact Below.refl _ _) | (with_reducible assumption) | (with_reducible refine Below.trans ?_ (Below.mono (by assumption) (by first | omega | (simp; done) | (simp; omega) | (simp at *; omega))))))))) hE1 hE).mono ?_
  rintro e x9 ⟨rfl, hb9⟩
  have hc9 : Below y7v0.heap.size y7v0 x9 := hb9
  have hB9 : Below w.heap.size w x9 := hB8.trans (hc9.mono hB8.size)
  have zu9 := hB9.size
  replace PB := Lib.hid (PB.out.below hc9)
  replace RB := Lib.hid (RB.out.below hc9)
  replace OB := Lib.hid (OB.out.below hc9)
  clear PB_8_0 PB_8_1 PB_8_2 PB_8_3 lPB_8 nPB_8 mPB_8 RB_8_0 RB_8_1 RB_8_2 RB_8_3 RB_8_4 RB_8_5 RB_8_6 RB_8_7 RB_8_8 lRB_8 nRB_8 mRB_8 OB_8_0 OB_8_1 lOB_8 nOB_8 mOB_8
  clear hb9 hB8 zu8 hc8
  obtain ⟨PB_9_0, PB_9_1, PB_9_2, PB_9_3⟩ := b4 PB.out
  have lPB_9 := PB.out.lt
  have nPB_9 : x9.heap.size ≠ w.heap.size := by omega
  have mPB_9 : w.heap.size ≠ x9.heap.size := by omega
  obtain ⟨RB_9_0, RB_9_1, RB_9_2, RB_9_3, RB_9_4, RB_9_5, RB_9_6, RB_9_7, RB_9_8⟩ := b9 RB.out
  have lRB_9 := RB.out.lt
  have nRB_9 : x9.heap.size ≠ w.heap.size + 1 := by omega
  have mRB_9 : w.heap.size + 1 ≠ x9.heap.size := by omega
  obtain ⟨OB_9_0, OB_9_1⟩ := b2 OB.out
  have lOB_9 := OB.out.lt
  have nOB_9 : x9.heap.size ≠ x6.heap.size := by omega
  have mOB_9 : x6.heap.size ≠ x9.heap.size := by omega
  go_wp2
  go_ret
  exact ⟨rfl, hB9⟩
set_option maxRecDepth 100000 in
set_option maxHeartbeats 8000000 in
theorem clk_l (nm : ByteArray) (s : Int) (G : List Ga) (D : List Le) (A B : Option Addr) (gn gc dn dc : Nat) (T : List Ox) (r : Ru) (AT : Option Addr) (tn tc : Nat) (leg : Int) (N : Nat) (w : World) (hz : nm.size ≤ 9223372036854775807) (hgn : Hid (gn = G.length)) (hgl : gn ≤ 9223372036854775807) (hdn : Hid (dn = D.length)) (hdl : dn ≤ 9223372036854775807) (hG : Hid (SlRows gaV 2 w A G)) (hD : Hid (SlRows leV 3 w B D)) (CG : Hid (A = none → gn = 0 ∧ gc = 0)) (CD : Hid (B = none → dn = 0 ∧ dc = 0)) (htn : Hid (tn = T.length)) (htl : tn ≤ 9223372036854775807) (hT : Hid (SlRows oxV 2 w AT T)) (CT : Hid (AT = none → tn = 0 ∧ tc = 0)) (hS : Hid (shortB nm.size dn gn = true)) (hF : Hid (fewB tn = true)) (hE0 : Hid (plnP nm s G D = (N, 0))) (hE1 : Hid (ruE T r = 0)) (hE : Hid (firE [0, 0] = 0)) (hl : Hid (inB leg 0 ((dn : Int) - 1) = false)) (hEx : Hid (firE [0, lgE leg dn] = 6)) (hnx : ¬ (6 : Int) = 0) :
    Calls Try.prog 4 #[.agg #[.string nm, .int .i64 s, .slice A gn gc, .slice B dn dc], .agg #[.slice AT tn tc, .int .i64 r.a, .int .i64 r.b, .int .i64 r.nc, .int .i64 r.dn, .int .i64 r.br, .int .i64 r.em, .int .i64 r.pa, .int .i64 r.sc], .int .i64 leg] w fun e w' => e = .returned (.bool true) ∧ Below w.heap.size w w' := by
  have ww : IntKind.i64.wrap ((dn : Int) - 1) = dn - 1 := IntWalk.i64_in _ (by omega)
  have hok := Lib.hid (pln_ok hE0.out)
  have hox := Lib.hid (ru_ok hE1.out).ox
  have hsb := shortB_le hS.out
  have hz6 : nm.size ≤ 1000000 := by omega
  have hg6 : gn ≤ 1000000 := by omega
  have hd6 : dn ≤ 1000000 := by omega
  have ht22 : tn ≤ 22 := fewB_le hF.out
  have ht6 : tn ≤ 1000000 := by omega
  go_enter Try.func4, Try.ntmps4
  go_wp2_with fail
  refine (awake_any _).mono ?_
  rintro e x1 ⟨rfl, hb1⟩
  have hc1 : Below w.heap.size w x1 := (((Below.refl _ _).alloc (by first | exact Nat.le_refl _ | (simp; done) | (simp; omega)) _).alloc (by first | exact Nat.le_refl _ | (simp; done) | (simp; omega)) _).trans (hb1.mono (by first | exact Nat.le_refl _ | (simp; done) | (simp; omega)))
  have hB1 : Below w.heap.size w x1 := hc1
  have zu1 := hB1.size
  have PB : Hid (BlkF x1 w.heap.size (w.heap.size) [.string nm, .int .i64 s, .slice A gn gc, .slice B dn dc]) := Lib.hid (((BlkF.made (B := w.heap.size) w [.string nm, .int .i64 s, .slice A gn gc, .slice B dn dc] 40 (by first | exact Nat.le_refl _ | (simp; done) | (simp; omega))).below ((Below.refl _ _).alloc (Nat.le_refl _) _)).below hb1)
  have zPB1 := PB.out.lt
  have RB : Hid (BlkF x1 w.heap.size (w.heap.size + 1) [.slice AT tn tc, .int .i64 r.a, .int .i64 r.b, .int .i64 r.nc, .int .i64 r.dn, .int .i64 r.br, .int .i64 r.em, .int .i64 r.pa, .int .i64 r.sc]) := Lib.hid (by have := (BlkF.made (B := w.heap.size) (w.alloc (.cells #[.string nm, .int .i64 s, .slice A gn gc, .slice B dn dc] 40)) [.slice AT tn tc, .int .i64 r.a, .int .i64 r.b, .int .i64 r.nc, .int .i64 r.dn, .int .i64 r.br, .int .i64 r.em, .int .i64 r.pa, .int .i64 r.sc] 26 (by first | exact Nat.le_refl _ | (simp; done) | (simp; omega))).below hb1; simpa using this)
  have zRB1 := RB.out.lt
  clear hb1
  obtain ⟨PB_1_0, PB_1_1, PB_1_2, PB_1_3⟩ := b4 PB.out
  have lPB_1 := PB.out.lt
  have nPB_1 : x1.heap.size ≠ w.heap.size := by omega
  have mPB_1 : w.heap.size ≠ x1.heap.size := by omega
  obtain ⟨RB_1_0, RB_1_1, RB_1_2, RB_1_3, RB_1_4, RB_1_5, RB_1_6, RB_1_7, RB_1_8⟩ := b9 RB.out
  have lRB_1 := RB.out.lt
  have nRB_1 : x1.heap.size ≠ w.heap.size + 1 := by omega
  have mRB_1 : w.heap.size + 1 ≠ x1.heap.size := by omega
  go_wp2_with fail
  refine (Short_is nm s G D A B gn gc dn dc true _ hz hgl hdl hS).mono ?_
  rintro e x2 ⟨rfl, hb2⟩
  have hc2 : Below x1.heap.size x1 x2 := hb2
  have hB2 : Below w.heap.size w x2 := hB1.trans (hc2.mono hB1.size)
  have zu2 := hB2.size
  replace PB := Lib.hid (PB.out.below hc2)
  replace RB := Lib.hid (RB.out.below hc2)
  clear PB_1_0 PB_1_1 PB_1_2 PB_1_3 lPB_1 nPB_1 mPB_1 RB_1_0 RB_1_1 RB_1_2 RB_1_3 RB_1_4 RB_1_5 RB_1_6 RB_1_7 RB_1_8 lRB_1 nRB_1 mRB_1
  clear hb2 hB1 zu1 hc1
  obtain ⟨PB_2_0, PB_2_1, PB_2_2, PB_2_3⟩ := b4 PB.out
  have lPB_2 := PB.out.lt
  have nPB_2 : x2.heap.size ≠ w.heap.size := by omega
  have mPB_2 : w.heap.size ≠ x2.heap.size := by omega
  obtain ⟨RB_2_0, RB_2_1, RB_2_2, RB_2_3, RB_2_4, RB_2_5, RB_2_6, RB_2_7, RB_2_8⟩ := b9 RB.out
  have lRB_2 := RB.out.lt
  have nRB_2 : x2.heap.size ≠ w.heap.size + 1 := by omega
  have mRB_2 : w.heap.size + 1 ≠ x2.heap.size := by omega
  go_wp2_with fail
  refine (few_is r AT tn tc true _ htl hF).mono ?_
  rintro e x3 ⟨rfl, hb3⟩
  have hc3 : Below x2.heap.size x2 x3 := hb3
  have hB3 : Below w.heap.size w x3 := hB2.trans (hc3.mono hB2.size)
  have zu3 := hB3.size
  replace PB := Lib.hid (PB.out.below hc3)
  replace RB := Lib.hid (RB.out.below hc3)
  clear PB_2_0 PB_2_1 PB_2_2 PB_2_3 lPB_2 nPB_2 mPB_2 RB_2_0 RB_2_1 RB_2_2 RB_2_3 RB_2_4 RB_2_5 RB_2_6 RB_2_7 RB_2_8 lRB_2 nRB_2 mRB_2
  clear hb3 hB2 zu2 hc2
  obtain ⟨PB_3_0, PB_3_1, PB_3_2, PB_3_3⟩ := b4 PB.out
  have lPB_3 := PB.out.lt
  have nPB_3 : x3.heap.size ≠ w.heap.size := by omega
  have mPB_3 : w.heap.size ≠ x3.heap.size := by omega
  obtain ⟨RB_3_0, RB_3_1, RB_3_2, RB_3_3, RB_3_4, RB_3_5, RB_3_6, RB_3_7, RB_3_8⟩ := b9 RB.out
  have lRB_3 := RB.out.lt
  have nRB_3 : x3.heap.size ≠ w.heap.size + 1 := by omega
  have mRB_3 : w.heap.size + 1 ≠ x3.heap.size := by omega
  go_upto_region 5 with (fail)
  have HS : Hid (∀ y, Below x3.heap.size x3 y → y.cell? ⟨w.heap.size, 0, none⟩ = some (.string nm) ∧ y.cell? ⟨w.heap.size, 1, none⟩ = some (.int .i64 s) ∧ y.cell? ⟨w.heap.size, 2, none⟩ = some (.slice A gn gc) ∧ y.cell? ⟨w.heap.size, 3, none⟩ = some (.slice B dn dc) ∧ y.cell? ⟨w.heap.size + 1, 0, none⟩ = some (.slice AT tn tc) ∧ y.cell? ⟨w.heap.size + 1, 1, none⟩ = some (.int .i64 r.a) ∧ y.cell? ⟨w.heap.size + 1, 2, none⟩ = some (.int .i64 r.b) ∧ y.cell? ⟨w.heap.size + 1, 3, none⟩ = some (.int .i64 r.nc) ∧ y.cell? ⟨w.heap.size + 1, 4, none⟩ = some (.int .i64 r.dn) ∧ y.cell? ⟨w.heap.size + 1, 5, none⟩ = some (.int .i64 r.br) ∧ y.cell? ⟨w.heap.size + 1, 6, none⟩ = some (.int .i64 r.em) ∧ y.cell? ⟨w.heap.size + 1, 7, none⟩ = some (.int .i64 r.pa) ∧ y.cell? ⟨w.heap.size + 1, 8, none⟩ = some (.int .i64 r.sc)) := Lib.hid fun y hy => ⟨(hy.cell (p := ⟨w.heap.size, 0, none⟩) lPB_3).trans PB_3_0, (hy.cell (p := ⟨w.heap.size, 1, none⟩) lPB_3).trans PB_3_1, (hy.cell (p := ⟨w.heap.size, 2, none⟩) lPB_3).trans PB_3_2, (hy.cell (p := ⟨w.heap.size, 3, none⟩) lPB_3).trans PB_3_3, (hy.cell (p := ⟨w.heap.size + 1, 0, none⟩) lRB_3).trans RB_3_0, (hy.cell (p := ⟨w.heap.size + 1, 1, none⟩) lRB_3).trans RB_3_1, (hy.cell (p := ⟨w.heap.size + 1, 2, none⟩) lRB_3).trans RB_3_2, (hy.cell (p := ⟨w.heap.size + 1, 3, none⟩) lRB_3).trans RB_3_3, (hy.cell (p := ⟨w.heap.size + 1, 4, none⟩) lRB_3).trans RB_3_4, (hy.cell (p := ⟨w.heap.size + 1, 5, none⟩) lRB_3).trans RB_3_5, (hy.cell (p := ⟨w.heap.size + 1, 6, none⟩) lRB_3).trans RB_3_6, (hy.cell (p := ⟨w.heap.size + 1, 7, none⟩) lRB_3).trans RB_3_7, (hy.cell (p := ⟨w.heap.size + 1, 8, none⟩) lRB_3).trans RB_3_8⟩
  refine wp_region_held_drew (S := (fun w' => w'.cell? ⟨w.heap.size, 0, none⟩ = some (.string nm) ∧ w'.cell? ⟨w.heap.size, 1, none⟩ = some (.int .i64 s) ∧ w'.cell? ⟨w.heap.size, 2, none⟩ = some (.slice A gn gc) ∧ w'.cell? ⟨w.heap.size, 3, none⟩ = some (.slice B dn dc) ∧ w'.cell? ⟨w.heap.size + 1, 0, none⟩ = some (.slice AT tn tc) ∧ w'.cell? ⟨w.heap.size + 1, 1, none⟩ = some (.int .i64 r.a) ∧ w'.cell? ⟨w.heap.size + 1, 2, none⟩ = some (.int .i64 r.b) ∧ w'.cell? ⟨w.heap.size + 1, 3, none⟩ = some (.int .i64 r.nc) ∧ w'.cell? ⟨w.heap.size + 1, 4, none⟩ = some (.int .i64 r.dn) ∧ w'.cell? ⟨w.heap.size + 1, 5, none⟩ = some (.int .i64 r.br) ∧ w'.cell? ⟨w.heap.size + 1, 6, none⟩ = some (.int .i64 r.em) ∧ w'.cell? ⟨w.heap.size + 1, 7, none⟩ = some (.int .i64 r.pa) ∧ w'.cell? ⟨w.heap.size + 1, 8, none⟩ = some (.int .i64 r.sc))) (by kernel_rfl) (HS.out _ (Below.refl _ _).drew) (fun hHeld => ?_)
  have hT0 : Below x3.heap.size x3 x3.drew := (Below.refl _ _).drew
  generalize hdr : x3.drew = y3v0 at *
  clear hdr
  refine tkH 0 ⟨some 25, _, _, _, _, _⟩ ?_ rfl ?_ (by assumption) ?_
  rotate_left
  · (intro w hSw; (try dsimp only at hSw); go_simp; all_goals with_reducible rfl)
  try simp only [Act.put, sA, sB, sC]
  refine tkH 2 ⟨some 27, _, _, _, _, _⟩ ?_ rfl ?_ (by assumption) ?_
  rotate_left
  · (intro w hSw; (try dsimp only at hSw); go_simp; all_goals with_reducible rfl)
  try simp only [Act.put, sA, sB, sC]
  refine wpAnyH_ready (rs := [1]) (by kernel_rfl) (by simp) ?_
  refine AllReadyH.cons rfl (fun K hK => ?_) (AllReadyH.nil)
  go_simp
  refine (copyP_is nm s G D A B gn gc dn dc _ hgn hdn hg6 hd6 (Lib.hid (hG.out.below (hB3.trans (hT0.mono hB3.size)))) (Lib.hid (hD.out.below (hB3.trans (hT0.mono hB3.size)))) CG CD).mono ?_
  rintro e y3v1 ⟨A1, ca1, B1, cb1, rfl, hsg, hsd, hna, hnb, hby3v0⟩
  have hT1 : Below x3.heap.size x3 y3v1 := hT0.trans (hby3v0.mono hT0.size)
  have HG1 := Lib.hid hsg
  have HD1 := Lib.hid hsd
  clear hsg hsd hna hnb
  clear hby3v0
  go_wp2_with fail
  refine hK.out _ _ (HS.out _ hT1) (fun hHeld => ?_)
  clear hK K
  try simp only [Act.put, sA, sB, sC]
  refine wpAnyH_ready (rs := [3]) (by kernel_rfl) (by simp) ?_
  refine AllReadyH.cons rfl (fun K hK => ?_) (AllReadyH.nil)
  go_simp
  refine (copyR_is T r AT tn tc _ htn ht6 (Lib.hid (hT.out.below (hB3.trans (hT1.mono hB3.size)))) CT).mono ?_
  rintro e y3v2 ⟨AT1, ct1, rfl, hst, hby3v1⟩
  have hT2 : Below x3.heap.size x3 y3v2 := hT1.trans (hby3v1.mono hT1.size)
  replace HG1 := Lib.hid (HG1.out.below hby3v1)
  replace HD1 := Lib.hid (HD1.out.below hby3v1)
  have HT1 := Lib.hid hst
  clear hst
  clear hby3v1
  go_wp2_with fail
  refine hK.out _ _ (HS.out _ hT2) (fun hHeld => ?_)
  clear hK K
  try simp only [Act.put, sA, sB, sC]
  refine wpAnyH_ready (rs := [4]) (by kernel_rfl) (by simp) ?_
  refine AllReadyH.cons rfl (fun K hK => ?_) (AllReadyH.nil)
  go_simp
  refine (cl_good (ClockOf_any nm s G D A1 B1 gn ca1 dn cb1 N 0 T r AT1 tn ct1 0 0 _ hz hgn hgl hdn hdl HG1 HD1 hE0 htn htl HT1 hE1 hE) rfl).mono ?_
  rintro e y3v3 ⟨C9, c9, rfl, hsC, hcB, hcn, hby3v2⟩
  have hT3 : Below x3.heap.size x3 y3v3 := hT2.trans (hby3v2.mono hT2.size)
  replace HG1 := Lib.hid (HG1.out.below hby3v2)
  replace HD1 := Lib.hid (HD1.out.below hby3v2)
  replace HT1 := Lib.hid (HT1.out.below hby3v2)
  have HC := Lib.hid hsC
  clear hsC hcB hcn
  clear hby3v2
  go_wp2_with fail
  refine hK.out _ _ (HS.out _ hT3) (fun hHeld => ?_)
  clear hK K
  try simp only [Act.put, sA, sB, sC]
  refine tkH 5 ⟨some 24, _, _, _, _, _⟩ ?_ rfl ?_ (by assumption) ?_
  rotate_left
  · (intro w hSw; (try dsimp only at hSw); go_simp; all_goals with_reducible rfl)
  try simp only [Act.put, sA, sB, sC]
  refine tkH 6 ⟨some 30, _, _, _, _, _⟩ ?_ rfl ?_ (by assumption) ?_
  rotate_left
  · (intro w hSw; (try dsimp only at hSw); go_simp; all_goals with_reducible rfl)
  try simp only [Act.put, sA, sB, sC]
  refine tkH 7 ⟨some 31, _, _, _, _, _⟩ ?_ rfl ?_ (by assumption) ?_
  rotate_left
  · (intro w hSw; (try dsimp only at hSw); go_simp; all_goals with_reducible rfl)
  try simp only [Act.put, sA, sB, sC]
  refine tkH 8 ⟨some 7, _, _, _, _, _⟩ ?_ rfl ?_ (by assumption) ?_
  rotate_left
  · (intro w hSw; (try dsimp only at hSw); go_simp; all_goals with_reducible rfl)
  try simp only [Act.put, sA, sB, sC]
  refine tkH 9 ⟨some 8, _, _, _, _, _⟩ ?_ rfl ?_ (by assumption) ?_
  rotate_left
  · (intro w hSw; (try dsimp only at hSw); go_simp; all_goals with_reducible rfl)
  try simp only [Act.put, sA, sB, sC]
  refine wpAnyH_done (by kernel_rfl) ?_ _
  have hc4 : Below x3.heap.size x3 y3v3 := hT3
  have hB4 : Below w.heap.size w y3v3 := hB3.trans (hc4.mono hB3.size)
  have zu4 := hB4.size
  replace PB := Lib.hid (PB.out.below hc4)
  replace RB := Lib.hid (RB.out.below hc4)
  clear PB_3_0 PB_3_1 PB_3_2 PB_3_3 lPB_3 nPB_3 mPB_3 RB_3_0 RB_3_1 RB_3_2 RB_3_3 RB_3_4 RB_3_5 RB_3_6 RB_3_7 RB_3_8 lRB_3 nRB_3 mRB_3
  clear HS hHeld hT0 hT1 hT2 hT3 hB3 zu3 hc3
  obtain ⟨PB_4_0, PB_4_1, PB_4_2, PB_4_3⟩ := b4 PB.out
  have lPB_4 := PB.out.lt
  have nPB_4 : y3v3.heap.size ≠ w.heap.size := by omega
  have mPB_4 : w.heap.size ≠ y3v3.heap.size := by omega
  obtain ⟨RB_4_0, RB_4_1, RB_4_2, RB_4_3, RB_4_4, RB_4_5, RB_4_6, RB_4_7, RB_4_8⟩ := b9 RB.out
  have lRB_4 := RB.out.lt
  have nRB_4 : y3v3.heap.size ≠ w.heap.size + 1 := by omega
  have mRB_4 : w.heap.size + 1 ≠ y3v3.heap.size := by omega
  clear HG1
  clear HD1
  clear HT1
  go_wp2_with fail
  refine (copyP_is nm s G D A B gn gc dn dc _ hgn hdn hg6 hd6 (Lib.hid (hG.out.below (by (repeat (first | (with_reducible refine Below.drew ?_) | (with_reducible refine below_drewN ?_ _) | (with_reducible refine Below.alloc ?_ (by first | omega | (simp; done) | (simp; omega) | (simp at *; omega)) _) | (with_reducible refine Below.setCell ?_ (by first | omega | (simp; done) | (simp; omega) | (simp at *; omega)) _) | (with_reducible exact Below.refl _ _) | (with_reducible assumption) | (with_reducible refine Below.trans ?_ (Below.mono (by assumption) (by first | omega | (simp; done) | (simp; omega) | (simp at *; omega))))))))) (Lib.hid (hD.out.below (by (repeat (first | (with_reducible refine Below.drew ?_) | (with_reducible refine below_drewN ?_ _) | (with_reducible refine Below.alloc ?_ (by first | omega | (simp; done) | (simp; omega) | (simp at *; omega)) _) | (with_reducible refine Below.setCell ?_ (by first | omega | (simp; done) | (simp; omega) | (simp at *; omega)) _) | (with_reducible exact Below.refl _ _) | (with_reducible assumption) | (with_reducible refine Below.trans ?_ (Below.mono (by assumption) (by first | omega | (simp; done) | (simp; omega) | (simp at *; omega))))))))) CG CD).mono ?_
  rintro e x5 ⟨A2, ca2, B2, cb2, rfl, hsg, hsd, hna, hnb, hb5⟩
  have hc5 : Below y3v3.heap.size y3v3 x5 := hb5
  have hB5 : Below w.heap.size w x5 := hB4.trans (hc5.mono hB4.size)
  have zu5 := hB5.size
  replace HC := Lib.hid (HC.out.below hc5)
  replace PB := Lib.hid (PB.out.below hc5)
  replace RB := Lib.hid (RB.out.below hc5)
  have HG2 := Lib.hid hsg
  have HD2 := Lib.hid hsd
  clear hsg hsd hna hnb
  clear PB_4_0 PB_4_1 PB_4_2 PB_4_3 lPB_4 nPB_4 mPB_4 RB_4_0 RB_4_1 RB_4_2 RB_4_3 RB_4_4 RB_4_5 RB_4_6 RB_4_7 RB_4_8 lRB_4 nRB_4 mRB_4
  clear hb5 hB4 zu4 hc4
  obtain ⟨PB_5_0, PB_5_1, PB_5_2, PB_5_3⟩ := b4 PB.out
  have lPB_5 := PB.out.lt
  have nPB_5 : x5.heap.size ≠ w.heap.size := by omega
  have mPB_5 : w.heap.size ≠ x5.heap.size := by omega
  obtain ⟨RB_5_0, RB_5_1, RB_5_2, RB_5_3, RB_5_4, RB_5_5, RB_5_6, RB_5_7, RB_5_8⟩ := b9 RB.out
  have lRB_5 := RB.out.lt
  have nRB_5 : x5.heap.size ≠ w.heap.size + 1 := by omega
  have mRB_5 : w.heap.size + 1 ≠ x5.heap.size := by omega
  go_wp2_with fail
  refine (cl_bad (OxygenOn_any nm s G D A2 B2 gn ca2 dn cb2 leg N 0 6 _ hz hgn hgl hdn hdl HG2 HD2 hE0 hEx) hnx).mono ?_
  rintro e x6 ⟨rfl, hb6⟩
  have hc6 : Below x5.heap.size x5 x6 := hb6
  have hB6 : Below w.heap.size w x6 := hB5.trans (hc6.mono hB5.size)
  have zu6 := hB6.size
  replace HC := Lib.hid (HC.out.below hc6)
  replace HG2 := Lib.hid (HG2.out.below hc6)
  replace HD2 := Lib.hid (HD2.out.below hc6)
  replace PB := Lib.hid (PB.out.below hc6)
  replace RB := Lib.hid (RB.out.below hc6)
  clear PB_5_0 PB_5_1 PB_5_2 PB_5_3 lPB_5 nPB_5 mPB_5 RB_5_0 RB_5_1 RB_5_2 RB_5_3 RB_5_4 RB_5_5 RB_5_6 RB_5_7 RB_5_8 lRB_5 nRB_5 mRB_5
  clear hb6 hB5 zu5 hc5
  obtain ⟨PB_6_0, PB_6_1, PB_6_2, PB_6_3⟩ := b4 PB.out
  have lPB_6 := PB.out.lt
  have nPB_6 : x6.heap.size ≠ w.heap.size := by omega
  have mPB_6 : w.heap.size ≠ x6.heap.size := by omega
  obtain ⟨RB_6_0, RB_6_1, RB_6_2, RB_6_3, RB_6_4, RB_6_5, RB_6_6, RB_6_7, RB_6_8⟩ := b9 RB.out
  have lRB_6 := RB.out.lt
  have nRB_6 : x6.heap.size ≠ w.heap.size + 1 := by omega
  have mRB_6 : w.heap.size + 1 ≠ x6.heap.size := by omega
  clear HG2
  clear HD2
  go_wp2_with fail
  refine (refErr_any nm s G D A B gn gc dn dc N 0 _ hz6 hgn hgl hdn hdl (Lib.hid (hG.out.below (by (repeat (first | (with_reducible refine Below.drew ?_) | (with_reducible refine below_drewN ?_ _) | (with_reducible refine Below.alloc ?_ (by first | omega | (simp; done) | (simp; omega) | (simp at *; omega)) _) | (with_reducible refine Below.setCell ?_ (by first | omega | (simp; done) | (simp; omega) | (simp at *; omega)) _) | (with_reducible exact Below.refl _ _) | (with_reducible assumption) | (with_reducible refine Below.trans ?_ (Below.mono (by assumption) (by first | omega | (simp; done) | (simp; omega) | (simp at *; omega))))))))) (Lib.hid (hD.out.below (by (repeat (first | (with_reducible refine Below.drew ?_) | (with_reducible refine below_drewN ?_ _) | (with_reducible refine Below.alloc ?_ (by first | omega | (simp; done) | (simp; omega) | (simp at *; omega)) _) | (with_reducible refine Below.setCell ?_ (by first | omega | (simp; done) | (simp; omega) | (simp at *; omega)) _) | (with_reducible exact Below.refl _ _) | (with_reducible assumption) | (with_reducible refine Below.trans ?_ (Below.mono (by assumption) (by first | omega | (simp; done) | (simp; omega) | (simp at *; omega))))))))) hE0).mono ?_
  rintro e x7 ⟨rfl, hb7⟩
  have hc7 : Below x6.heap.size x6 x7 := ((Below.refl _ _).alloc (by first | exact Nat.le_refl _ | (simp; done) | (simp; omega)) _).trans (hb7.mono (by first | exact Nat.le_refl _ | (simp; done) | (simp; omega)))
  have hB7 : Below w.heap.size w x7 := hB6.trans (hc7.mono hB6.size)
  have zu7 := hB7.size
  replace HC := Lib.hid (HC.out.below hc7)
  replace PB := Lib.hid (PB.out.below hc7)
  replace RB := Lib.hid (RB.out.below hc7)
  have OB : Hid (BlkF x7 w.heap.size (x6.heap.size) [.int .i64 0, .int .i64 0]) := Lib.hid ((BlkF.made (B := w.heap.size) x6 [.int .i64 0, .int .i64 0] 47 (by first | exact Nat.le_refl _ | exact hB6.size | (simp; done) | (simp; omega))).below hb7)
  have zOB7 := OB.out.lt
  clear PB_6_0 PB_6_1 PB_6_2 PB_6_3 lPB_6 nPB_6 mPB_6 RB_6_0 RB_6_1 RB_6_2 RB_6_3 RB_6_4 RB_6_5 RB_6_6 RB_6_7 RB_6_8 lRB_6 nRB_6 mRB_6
  clear hb7 hB6 zu6 hc6
  obtain ⟨PB_7_0, PB_7_1, PB_7_2, PB_7_3⟩ := b4 PB.out
  have lPB_7 := PB.out.lt
  have nPB_7 : x7.heap.size ≠ w.heap.size := by omega
  have mPB_7 : w.heap.size ≠ x7.heap.size := by omega
  obtain ⟨RB_7_0, RB_7_1, RB_7_2, RB_7_3, RB_7_4, RB_7_5, RB_7_6, RB_7_7, RB_7_8⟩ := b9 RB.out
  have lRB_7 := RB.out.lt
  have nRB_7 : x7.heap.size ≠ w.heap.size + 1 := by omega
  have mRB_7 : w.heap.size + 1 ≠ x7.heap.size := by omega
  obtain ⟨OB_7_0, OB_7_1⟩ := b2 OB.out
  have lOB_7 := OB.out.lt
  have nOB_7 : x7.heap.size ≠ x6.heap.size := by omega
  have mOB_7 : x6.heap.size ≠ x7.heap.size := by omega
  go_upto_region 10 with (((go_at_call 20; ((with_reducible refine (bW_r _ _ _ _ _ hl).mono ?_)); rintro e w' ⟨rfl, rfl⟩)))
  have HS : Hid (∀ y, Below x7.heap.size x7 y → y.cell? ⟨w.heap.size, 0, none⟩ = some (.string nm) ∧ y.cell? ⟨w.heap.size, 1, none⟩ = some (.int .i64 s) ∧ y.cell? ⟨w.heap.size, 2, none⟩ = some (.slice A gn gc) ∧ y.cell? ⟨w.heap.size, 3, none⟩ = some (.slice B dn dc) ∧ y.cell? ⟨w.heap.size + 1, 0, none⟩ = some (.slice AT tn tc) ∧ y.cell? ⟨w.heap.size + 1, 1, none⟩ = some (.int .i64 r.a) ∧ y.cell? ⟨w.heap.size + 1, 2, none⟩ = some (.int .i64 r.b) ∧ y.cell? ⟨w.heap.size + 1, 3, none⟩ = some (.int .i64 r.nc) ∧ y.cell? ⟨w.heap.size + 1, 4, none⟩ = some (.int .i64 r.dn) ∧ y.cell? ⟨w.heap.size + 1, 5, none⟩ = some (.int .i64 r.br) ∧ y.cell? ⟨w.heap.size + 1, 6, none⟩ = some (.int .i64 r.em) ∧ y.cell? ⟨w.heap.size + 1, 7, none⟩ = some (.int .i64 r.pa) ∧ y.cell? ⟨w.heap.size + 1, 8, none⟩ = some (.int .i64 r.sc) ∧ y.cell? ⟨x6.heap.size, 0, none⟩ = some (.int .i64 0) ∧ y.cell? ⟨x6.heap.size, 1, none⟩ = some (.int .i64 0)) := Lib.hid fun y hy => ⟨(hy.cell (p := ⟨w.heap.size, 0, none⟩) lPB_7).trans PB_7_0, (hy.cell (p := ⟨w.heap.size, 1, none⟩) lPB_7).trans PB_7_1, (hy.cell (p := ⟨w.heap.size, 2, none⟩) lPB_7).trans PB_7_2, (hy.cell (p := ⟨w.heap.size, 3, none⟩) lPB_7).trans PB_7_3, (hy.cell (p := ⟨w.heap.size + 1, 0, none⟩) lRB_7).trans RB_7_0, (hy.cell (p := ⟨w.heap.size + 1, 1, none⟩) lRB_7).trans RB_7_1, (hy.cell (p := ⟨w.heap.size + 1, 2, none⟩) lRB_7).trans RB_7_2, (hy.cell (p := ⟨w.heap.size + 1, 3, none⟩) lRB_7).trans RB_7_3, (hy.cell (p := ⟨w.heap.size + 1, 4, none⟩) lRB_7).trans RB_7_4, (hy.cell (p := ⟨w.heap.size + 1, 5, none⟩) lRB_7).trans RB_7_5, (hy.cell (p := ⟨w.heap.size + 1, 6, none⟩) lRB_7).trans RB_7_6, (hy.cell (p := ⟨w.heap.size + 1, 7, none⟩) lRB_7).trans RB_7_7, (hy.cell (p := ⟨w.heap.size + 1, 8, none⟩) lRB_7).trans RB_7_8, (hy.cell (p := ⟨x6.heap.size, 0, none⟩) lOB_7).trans OB_7_0, (hy.cell (p := ⟨x6.heap.size, 1, none⟩) lOB_7).trans OB_7_1⟩
  refine wp_region_held_drew (S := (fun w' => w'.cell? ⟨w.heap.size, 0, none⟩ = some (.string nm) ∧ w'.cell? ⟨w.heap.size, 1, none⟩ = some (.int .i64 s) ∧ w'.cell? ⟨w.heap.size, 2, none⟩ = some (.slice A gn gc) ∧ w'.cell? ⟨w.heap.size, 3, none⟩ = some (.slice B dn dc) ∧ w'.cell? ⟨w.heap.size + 1, 0, none⟩ = some (.slice AT tn tc) ∧ w'.cell? ⟨w.heap.size + 1, 1, none⟩ = some (.int .i64 r.a) ∧ w'.cell? ⟨w.heap.size + 1, 2, none⟩ = some (.int .i64 r.b) ∧ w'.cell? ⟨w.heap.size + 1, 3, none⟩ = some (.int .i64 r.nc) ∧ w'.cell? ⟨w.heap.size + 1, 4, none⟩ = some (.int .i64 r.dn) ∧ w'.cell? ⟨w.heap.size + 1, 5, none⟩ = some (.int .i64 r.br) ∧ w'.cell? ⟨w.heap.size + 1, 6, none⟩ = some (.int .i64 r.em) ∧ w'.cell? ⟨w.heap.size + 1, 7, none⟩ = some (.int .i64 r.pa) ∧ w'.cell? ⟨w.heap.size + 1, 8, none⟩ = some (.int .i64 r.sc) ∧ w'.cell? ⟨x6.heap.size, 0, none⟩ = some (.int .i64 0) ∧ w'.cell? ⟨x6.heap.size, 1, none⟩ = some (.int .i64 0))) (by kernel_rfl) (HS.out _ (Below.refl _ _).drew) (fun hHeld => ?_)
  have hT0 : Below x7.heap.size x7 x7.drew := (Below.refl _ _).drew
  generalize hdr : x7.drew = y7v0 at *
  clear hdr
  refine tkH 0 ⟨some 52, _, _, _, _, _⟩ ?_ rfl ?_ (by assumption) ?_
  rotate_left
  · (intro w hSw; (try dsimp only at hSw); go_simp; all_goals with_reducible rfl)
  try simp only [Act.put, sA, sB, sC]
  refine tkH 1 ⟨some 53, _, _, _, _, _⟩ ?_ rfl ?_ (by assumption) ?_
  rotate_left
  · (intro w hSw; (try dsimp only at hSw); go_simp; all_goals with_reducible rfl)
  try simp only [Act.put, sA, sB, sC]
  refine tkH 2 ⟨some 54, _, _, _, _, _⟩ ?_ rfl ?_ (by assumption) ?_
  rotate_left
  · (intro w hSw; (try dsimp only at hSw); go_simp; all_goals with_reducible rfl)
  try simp only [Act.put, sA, sB, sC]
  refine tkH 3 ⟨some 55, _, _, _, _, _⟩ ?_ rfl ?_ (by assumption) ?_
  rotate_left
  · (intro w hSw; (try dsimp only at hSw); go_simp; all_goals with_reducible rfl)
  try simp only [Act.put, sA, sB, sC]
  refine tkH 4 ⟨some 56, _, _, _, _, _⟩ ?_ rfl ?_ (by assumption) ?_
  rotate_left
  · (intro w hSw; (try dsimp only at hSw); go_simp; all_goals with_reducible rfl)
  try simp only [Act.put, sA, sB, sC]
  refine tkH 5 ⟨some 57, _, _, _, _, _⟩ ?_ rfl ?_ (by assumption) ?_
  rotate_left
  · (intro w hSw; (try dsimp only at hSw); go_simp; all_goals with_reducible rfl)
  try simp only [Act.put, sA, sB, sC]
  refine tkH 6 ⟨some 58, _, _, _, _, _⟩ ?_ rfl ?_ (by assumption) ?_
  rotate_left
  · (intro w hSw; (try dsimp only at hSw); go_simp; all_goals with_reducible rfl)
  try simp only [Act.put, sA, sB, sC]
  refine tkH 7 ⟨some 59, _, _, _, _, _⟩ ?_ rfl ?_ (by assumption) ?_
  rotate_left
  · (intro w hSw; (try dsimp only at hSw); go_simp; all_goals with_reducible rfl)
  try simp only [Act.put, sA, sB, sC]
  refine tkH 8 ⟨some 60, _, _, _, _, _⟩ ?_ rfl ?_ (by assumption) ?_
  rotate_left
  · (intro w hSw; (try dsimp only at hSw); go_simp; all_goals with_reducible rfl)
  try simp only [Act.put, sA, sB, sC]
  refine tkH 9 ⟨some 61, _, _, _, _, _⟩ ?_ rfl ?_ (by assumption) ?_
  rotate_left
  · (intro w hSw; (try dsimp only at hSw); go_simp; all_goals with_reducible rfl)
  try simp only [Act.put, sA, sB, sC]
  refine tkH 10 ⟨some 62, _, _, _, _, _⟩ ?_ rfl ?_ (by assumption) ?_
  rotate_left
  · (intro w hSw; (try dsimp only at hSw); go_simp; all_goals with_reducible rfl)
  try simp only [Act.put, sA, sB, sC]
  refine tkH 11 ⟨some 63, _, _, _, _, _⟩ ?_ rfl ?_ (by assumption) ?_
  rotate_left
  · (intro w hSw; (try dsimp only at hSw); go_simp; all_goals with_reducible rfl)
  try simp only [Act.put, sA, sB, sC]
  refine tkH 12 ⟨some 64, _, _, _, _, _⟩ ?_ rfl ?_ (by assumption) ?_
  rotate_left
  · (intro w hSw; (try dsimp only at hSw); go_simp; all_goals with_reducible rfl)
  try simp only [Act.put, sA, sB, sC]
  refine tkH 13 ⟨some 65, _, _, _, _, _⟩ ?_ rfl ?_ (by assumption) ?_
  rotate_left
  · (intro w hSw; (try dsimp only at hSw); go_simp; all_goals with_reducible rfl)
  try simp only [Act.put, sA, sB, sC]
  refine tkH 14 ⟨some 66, _, _, _, _, _⟩ ?_ rfl ?_ (by assumption) ?_
  rotate_left
  · (intro w hSw; (try dsimp only at hSw); go_simp; all_goals with_reducible rfl)
  try simp only [Act.put, sA, sB, sC]
  refine tkH 15 ⟨some 67, _, _, _, _, _⟩ ?_ rfl ?_ (by assumption) ?_
  rotate_left
  · (intro w hSw; (try dsimp only at hSw); go_simp; all_goals with_reducible rfl)
  try simp only [Act.put, sA, sB, sC]
  refine skH 16 ⟨some 68, _, _, _, _, _⟩ rfl (by assumption) ?_
  try simp only [Act.put, sA, sB, sC]
  refine skH 17 ⟨some 69, _, _, _, _, _⟩ rfl (by assumption) ?_
  try simp only [Act.put, sA, sB, sC]
  refine skH 18 ⟨some 70, _, _, _, _, _⟩ rfl (by assumption) ?_
  try simp only [Act.put, sA, sB, sC]
  refine skH 19 ⟨some 71, _, _, _, _, _⟩ rfl (by assumption) ?_
  try simp only [Act.put, sA, sB, sC]
  refine skH 20 ⟨some 72, _, _, _, _, _⟩ rfl (by assumption) ?_
  try simp only [Act.put, sA, sB, sC]
  refine skH 21 ⟨some 73, _, _, _, _, _⟩ rfl (by assumption) ?_
  try simp only [Act.put, sA, sB, sC]
  refine skH 22 ⟨some 74, _, _, _, _, _⟩ rfl (by assumption) ?_
  try simp only [Act.put, sA, sB, sC]
  refine skH 23 ⟨some 75, _, _, _, _, _⟩ rfl (by assumption) ?_
  try simp only [Act.put, sA, sB, sC]
  refine skH 24 ⟨some 76, _, _, _, _, _⟩ rfl (by assumption) ?_
  try simp only [Act.put, sA, sB, sC]
  refine tkH 25 ⟨some 77, _, _, _, _, _⟩ ?_ rfl ?_ (by assumption) ?_
  rotate_left
  · (intro w hSw; (try dsimp only at hSw); go_simp; all_goals with_reducible rfl)
  try simp only [Act.put, sA, sB, sC]
  refine tkH 26 ⟨some 78, _, _, _, _, _⟩ ?_ rfl ?_ (by assumption) ?_
  rotate_left
  · (intro w hSw; (try dsimp only at hSw); go_simp; all_goals with_reducible rfl)
  try simp only [Act.put, sA, sB, sC]
  refine wpAnyH_done (by kernel_rfl) ?_ _
  have hc8 : Below x7.heap.size x7 y7v0 := hT0
  have hB8 : Below w.heap.size w y7v0 := hB7.trans (hc8.mono hB7.size)
  have zu8 := hB8.size
  replace HC := Lib.hid (HC.out.below hc8)
  replace PB := Lib.hid (PB.out.below hc8)
  replace RB := Lib.hid (RB.out.below hc8)
  replace OB := Lib.hid (OB.out.below hc8)
  clear PB_7_0 PB_7_1 PB_7_2 PB_7_3 lPB_7 nPB_7 mPB_7 RB_7_0 RB_7_1 RB_7_2 RB_7_3 RB_7_4 RB_7_5 RB_7_6 RB_7_7 RB_7_8 lRB_7 nRB_7 mRB_7 OB_7_0 OB_7_1 lOB_7 nOB_7 mOB_7
  clear HS hHeld hT0 hB7 zu7 hc7
  obtain ⟨PB_8_0, PB_8_1, PB_8_2, PB_8_3⟩ := b4 PB.out
  have lPB_8 := PB.out.lt
  have nPB_8 : y7v0.heap.size ≠ w.heap.size := by omega
  have mPB_8 : w.heap.size ≠ y7v0.heap.size := by omega
  obtain ⟨RB_8_0, RB_8_1, RB_8_2, RB_8_3, RB_8_4, RB_8_5, RB_8_6, RB_8_7, RB_8_8⟩ := b9 RB.out
  have lRB_8 := RB.out.lt
  have nRB_8 : y7v0.heap.size ≠ w.heap.size + 1 := by omega
  have mRB_8 : w.heap.size + 1 ≠ y7v0.heap.size := by omega
  obtain ⟨OB_8_0, OB_8_1⟩ := b2 OB.out
  have lOB_8 := OB.out.lt
  have nOB_8 : y7v0.heap.size ≠ x6.heap.size := by omega
  have mOB_8 : x6.heap.size ≠ y7v0.heap.size := by omega
  go_wp2_with fail
  refine (refBoth_any nm s G D A B gn gc dn dc T r AT tn tc N 0 0 0 _ hz6 hgn hgl hdn hdl (Lib.hid (hG.out.below (by (repeat (first | (with_reducible refine Below.drew ?_) | (with_reducible refine below_drewN ?_ _) | (with_reducible refine Below.alloc ?_ (by first | omega | (simp; done) | (simp; omega) | (simp at *; omega)) _) | (with_reducible refine Below.setCell ?_ (by first | omega | (simp; done) | (simp; omega) | (simp at *; omega)) _) | (with_reducible exact Below.refl _ _) | (with_reducible assumption) | (with_reducible refine Below.trans ?_ (Below.mono (by assumption) (by first | omega | (simp; done) | (simp; omega) | (simp at *; omega))))))))) (Lib.hid (hD.out.below (by (repeat (first | (with_reducible refine Below.drew ?_) | (with_reducible refine below_drewN ?_ _) | (with_reducible refine Below.alloc ?_ (by first | omega | (simp; done) | (simp; omega) | (simp at *; omega)) _) | (with_reducible refine Below.setCell ?_ (by first | omega | (simp; done) | (simp; omega) | (simp at *; omega)) _) | (with_reducible exact Below.refl _ _) | (with_reducible assumption) | (with_reducible refine Below.trans ?_ (Below.mono (by assumption) (by first | omega | (simp; done) | (simp; omega) | (simp at *; omega))))))))) hE0 htn htl (Lib.hid (hT.out.below (by (repeat (first | (with_reducible refine Below.drew ?_) | (with_reducible refine below_drewN ?_ _) | (with_reducible refine Below.alloc ?_ (by first | omega | (simp; done) | (simp; omega) | (simp at *; omega)) _) | (with_reducible refine Below.setCell ?_ (by first | omega | (simp; done) | (simp; omega) | (simp at *; omega)) _) | (with_reducible exact Below.refl _ _) | (with_reducible assumption) | (with_reducible refine Below.trans ?_ (Below.mono (by assumption) (by first | omega | (simp; done) | (simp; omega) | (simp at *; omega))))))))) hE1 hE).mono ?_
  rintro e x9 ⟨rfl, hb9⟩
  have hc9 : Below y7v0.heap.size y7v0 x9 := hb9
  have hB9 : Below w.heap.size w x9 := hB8.trans (hc9.mono hB8.size)
  have zu9 := hB9.size
  replace HC := Lib.hid (HC.out.below hc9)
  replace PB := Lib.hid (PB.out.below hc9)
  replace RB := Lib.hid (RB.out.below hc9)
  replace OB := Lib.hid (OB.out.below hc9)
  clear PB_8_0 PB_8_1 PB_8_2 PB_8_3 lPB_8 nPB_8 mPB_8 RB_8_0 RB_8_1 RB_8_2 RB_8_3 RB_8_4 RB_8_5 RB_8_6 RB_8_7 RB_8_8 lRB_8 nRB_8 mRB_8 OB_8_0 OB_8_1 lOB_8 nOB_8 mOB_8
  clear hb9 hB8 zu8 hc8
  obtain ⟨PB_9_0, PB_9_1, PB_9_2, PB_9_3⟩ := b4 PB.out
  have lPB_9 := PB.out.lt
  have nPB_9 : x9.heap.size ≠ w.heap.size := by omega
  have mPB_9 : w.heap.size ≠ x9.heap.size := by omega
  obtain ⟨RB_9_0, RB_9_1, RB_9_2, RB_9_3, RB_9_4, RB_9_5, RB_9_6, RB_9_7, RB_9_8⟩ := b9 RB.out
  have lRB_9 := RB.out.lt
  have nRB_9 : x9.heap.size ≠ w.heap.size + 1 := by omega
  have mRB_9 : w.heap.size + 1 ≠ x9.heap.size := by omega
  obtain ⟨OB_9_0, OB_9_1⟩ := b2 OB.out
  have lOB_9 := OB.out.lt
  have nOB_9 : x9.heap.size ≠ x6.heap.size := by omega
  have mOB_9 : x6.heap.size ≠ x9.heap.size := by omega
  have HB0 := Lib.hid hB9
  have hcl : ((List.range dn).map fun k => clkX T (legK s G D k)).length = dn := by simp
  go_wp2_with fail
  go_loopw [13] (fun i wr => ∃ j : Nat, j ≤ dn ∧ i = .int .i64 j ∧ Hid (BlkF wr w.heap.size w.heap.size [.string nm, .int .i64 s, .slice A gn gc, .slice B dn dc]) ∧ Hid (BlkF wr w.heap.size (w.heap.size + 1) [.slice AT tn tc, .int .i64 r.a, .int .i64 r.b, .int .i64 r.nc, .int .i64 r.dn, .int .i64 r.br, .int .i64 r.em, .int .i64 r.pa, .int .i64 r.sc]) ∧ Hid (SlRows inV 1 wr C9 ((List.range dn).map fun k => clkX T (legK s G D k))) ∧ Below w.heap.size w wr) (fun i _ => dn - (intOf i).toNat)
  case atStart => exact ⟨0, by omega, rfl, PB, RB, HC, HB0.out⟩
  case round =>
    clear PB_9_0 PB_9_1 PB_9_2 PB_9_3 lPB_9 nPB_9 mPB_9 RB_9_0 RB_9_1 RB_9_2 RB_9_3 RB_9_4 RB_9_5 RB_9_6 RB_9_7 RB_9_8 lRB_9 nRB_9 mRB_9 OB_9_0 OB_9_1 lOB_9 nOB_9 mOB_9 PB RB HC OB HB0 hB9 zu9 hc9
    obtain ⟨j, hj, rfl, hP9, hR9, hC9, hBx⟩ := hrel
    have zb := hBx.size
    obtain ⟨c0, c1, c2, c3⟩ := b4 hP9.out
    obtain ⟨r0, r1, r2, r3, r4, r5, r6, r7, r8⟩ := b9 hR9.out
    have lP := hP9.out.lt
    have lR := hR9.out.lt
    by_cases hjn : j < dn
    · have jn : (j : Int) < (dn : Int) := by omega
      have j0 : ¬ (j : Int) < 0 := by omega
      obtain ⟨cb, co, rfl, hlt, hR⟩ := hC9.out.at' (k := j) (by rw [hcl]; exact hjn)
      have q0 := hR j (by rw [hcl]; exact hjn) 0 (by omega)
      obtain ⟨q9, hq9⟩ : ∃ z, Hid (clkV T (legK s G D j).s (oxLo (legK s G D j)) (oxHi (legK s G D j)) = z) := ⟨_, Lib.hid rfl⟩
      have q1 : wr.cell? ⟨cb, co + j * 1 + 0, none⟩ = some (.int .i64 q9) := by
        rw [q0]; simp only [List.getElem_map, List.getElem_range]; unfold clkX; rw [hq9.out]; rfl
      have q2 : wr.cell? ⟨cb, co + j, none⟩ = some (.int .i64 q9) := by simpa using q1
      clear q0 hR
      go_upto_region 20 with (fail)
      have HS : Hid (∀ y, Below wr.heap.size wr y → y.cell? ⟨w.heap.size, 0, none⟩ = some (.string nm) ∧ y.cell? ⟨w.heap.size, 1, none⟩ = some (.int .i64 s) ∧ y.cell? ⟨w.heap.size, 2, none⟩ = some (.slice A gn gc) ∧ y.cell? ⟨w.heap.size, 3, none⟩ = some (.slice B dn dc) ∧ y.cell? ⟨w.heap.size + 1, 0, none⟩ = some (.slice AT tn tc) ∧ y.cell? ⟨w.heap.size + 1, 1, none⟩ = some (.int .i64 r.a) ∧ y.cell? ⟨w.heap.size + 1, 2, none⟩ = some (.int .i64 r.b) ∧ y.cell? ⟨w.heap.size + 1, 3, none⟩ = some (.int .i64 r.nc) ∧ y.cell? ⟨w.heap.size + 1, 4, none⟩ = some (.int .i64 r.dn) ∧ y.cell? ⟨w.heap.size + 1, 5, none⟩ = some (.int .i64 r.br) ∧ y.cell? ⟨w.heap.size + 1, 6, none⟩ = some (.int .i64 r.em) ∧ y.cell? ⟨w.heap.size + 1, 7, none⟩ = some (.int .i64 r.pa) ∧ y.cell? ⟨w.heap.size + 1, 8, none⟩ = some (.int .i64 r.sc) ∧ y.cell? ⟨cb, co + j, none⟩ = some (.int .i64 q9)) := Lib.hid fun y hy => ⟨(hy.cell (p := ⟨w.heap.size, 0, none⟩) lP).trans c0, (hy.cell (p := ⟨w.heap.size, 1, none⟩) lP).trans c1, (hy.cell (p := ⟨w.heap.size, 2, none⟩) lP).trans c2, (hy.cell (p := ⟨w.heap.size, 3, none⟩) lP).trans c3, (hy.cell (p := ⟨w.heap.size + 1, 0, none⟩) lR).trans r0, (hy.cell (p := ⟨w.heap.size + 1, 1, none⟩) lR).trans r1, (hy.cell (p := ⟨w.heap.size + 1, 2, none⟩) lR).trans r2, (hy.cell (p := ⟨w.heap.size + 1, 3, none⟩) lR).trans r3, (hy.cell (p := ⟨w.heap.size + 1, 4, none⟩) lR).trans r4, (hy.cell (p := ⟨w.heap.size + 1, 5, none⟩) lR).trans r5, (hy.cell (p := ⟨w.heap.size + 1, 6, none⟩) lR).trans r6, (hy.cell (p := ⟨w.heap.size + 1, 7, none⟩) lR).trans r7, (hy.cell (p := ⟨w.heap.size + 1, 8, none⟩) lR).trans r8, (hy.cell (p := ⟨cb, co + j, none⟩) hlt).trans q2⟩
      clear c0 c1 c2 c3 r0 r1 r2 r3 r4 r5 r6 r7 r8 q1 q2
      refine wp_region_held_drew (S := (fun w' => w'.cell? ⟨w.heap.size, 0, none⟩ = some (.string nm) ∧ w'.cell? ⟨w.heap.size, 1, none⟩ = some (.int .i64 s) ∧ w'.cell? ⟨w.heap.size, 2, none⟩ = some (.slice A gn gc) ∧ w'.cell? ⟨w.heap.size, 3, none⟩ = some (.slice B dn dc) ∧ w'.cell? ⟨w.heap.size + 1, 0, none⟩ = some (.slice AT tn tc) ∧ w'.cell? ⟨w.heap.size + 1, 1, none⟩ = some (.int .i64 r.a) ∧ w'.cell? ⟨w.heap.size + 1, 2, none⟩ = some (.int .i64 r.b) ∧ w'.cell? ⟨w.heap.size + 1, 3, none⟩ = some (.int .i64 r.nc) ∧ w'.cell? ⟨w.heap.size + 1, 4, none⟩ = some (.int .i64 r.dn) ∧ w'.cell? ⟨w.heap.size + 1, 5, none⟩ = some (.int .i64 r.br) ∧ w'.cell? ⟨w.heap.size + 1, 6, none⟩ = some (.int .i64 r.em) ∧ w'.cell? ⟨w.heap.size + 1, 7, none⟩ = some (.int .i64 r.pa) ∧ w'.cell? ⟨w.heap.size + 1, 8, none⟩ = some (.int .i64 r.sc) ∧ w'.cell? ⟨cb, co + j, none⟩ = some (.int .i64 q9))) (by kernel_rfl) (HS.out _ (Below.refl _ _).drew) (fun hHeld => ?_)
      have hT0 : Below wr.heap.size wr wr.drew := (Below.refl _ _).drew
      generalize hdr : wr.drew = v0 at *
      clear hdr
      refine tkH 0 ⟨some 108, _, _, _, _, _⟩ ?_ rfl ?_ (by assumption) ?_
      rotate_left
      · (intro w hSw; (try dsimp only at hSw); go_simp; all_goals with_reducible rfl)
      try simp only [Act.put, sA, sB, sC]
      refine tkH 1 ⟨some 109, _, _, _, _, _⟩ ?_ rfl ?_ (by assumption) ?_
      rotate_left
      · (intro w hSw; (try dsimp only at hSw); go_simp; all_goals with_reducible rfl)
      try simp only [Act.put, sA, sB, sC]
      refine tkH 2 ⟨some 110, _, _, _, _, _⟩ ?_ rfl ?_ (by assumption) ?_
      rotate_left
      · (intro w hSw; (try dsimp only at hSw); go_simp; all_goals with_reducible rfl)
      try simp only [Act.put, sA, sB, sC]
      refine tkH 3 ⟨some 111, _, _, _, _, _⟩ ?_ rfl ?_ (by assumption) ?_
      rotate_left
      · (intro w hSw; (try dsimp only at hSw); go_simp; all_goals with_reducible rfl)
      try simp only [Act.put, sA, sB, sC]
      refine tkH 4 ⟨some 112, _, _, _, _, _⟩ ?_ rfl ?_ (by assumption) ?_
      rotate_left
      · (intro w hSw; (try dsimp only at hSw); go_simp; all_goals with_reducible rfl)
      try simp only [Act.put, sA, sB, sC]
      refine tkH 5 ⟨some 113, _, _, _, _, _⟩ ?_ rfl ?_ (by assumption) ?_
      rotate_left
      · (intro w hSw; (try dsimp only at hSw); go_simp; all_goals with_reducible rfl)
      try simp only [Act.put, sA, sB, sC]
      refine tkH 6 ⟨some 114, _, _, _, _, _⟩ ?_ rfl ?_ (by assumption) ?_
      rotate_left
      · (intro w hSw; (try dsimp only at hSw); go_simp; all_goals with_reducible rfl)
      try simp only [Act.put, sA, sB, sC]
      refine wpAnyH_ready (rs := [7]) (by kernel_rfl) (by simp) ?_
      refine AllReadyH.cons rfl (fun K hK => ?_) (AllReadyH.nil)
      go_simp
      refine (refClock_is nm s G D A B gn gc dn dc T r AT tn tc j q9 _ hgn hdn hok (Lib.hid (hG.out.below (hBx.trans (hT0.mono hBx.size)))) (Lib.hid (hD.out.below (hBx.trans (hT0.mono hBx.size)))) htn (Lib.hid (hT.out.below (hBx.trans (hT0.mono hBx.size)))) hox hjn hq9).mono ?_
      rintro e v1 ⟨rfl, hbv0⟩
      have hT1 : Below wr.heap.size wr v1 := hT0.trans (hbv0.mono hT0.size)
      clear hbv0
      go_wp2_with fail
      refine hK.out _ _ (HS.out _ hT1) (fun hHeld => ?_)
      clear hK K
      try simp only [Act.put, sA, sB, sC]
      refine tkH 8 ⟨some 116, _, _, _, _, _⟩ ?_ rfl ?_ (by assumption) ?_
      rotate_left
      · (intro w hSw; (try dsimp only at hSw); go_simp; all_goals with_reducible rfl)
      try simp only [Act.put, sA, sB, sC]
      refine wpAnyH_done (by kernel_rfl) ?_ _
      have HBn := Lib.hid (hBx.trans (hT1.mono hBx.size))
      have HPn := Lib.hid (hP9.out.below hT1)
      have HRn := Lib.hid (hR9.out.below hT1)
      have HCn := Lib.hid (hC9.out.below hT1)
      clear hHeld HS
      go_wp2
      go_roundw
      case rel => exact ⟨j + 1, by omega, by go_num, HPn, HRn, HCn, HBn.out⟩
      case measure => simp [intOf]; omega
    · have jn : ¬ (j : Int) < (dn : Int) := by omega
      go_wp2
      go_ret
      exact ⟨rfl, hBx⟩
set_option maxRecDepth 100000 in
set_option maxHeartbeats 8000000 in
theorem clk_r (nm : ByteArray) (s : Int) (G : List Ga) (D : List Le) (A B : Option Addr) (gn gc dn dc : Nat) (T : List Ox) (r : Ru) (AT : Option Addr) (tn tc : Nat) (k : Nat) (N : Nat) (E1 ox oy : Int) (w : World) (hz : nm.size ≤ 9223372036854775807) (hgn : Hid (gn = G.length)) (hgl : gn ≤ 9223372036854775807) (hdn : Hid (dn = D.length)) (hdl : dn ≤ 9223372036854775807) (hG : Hid (SlRows gaV 2 w A G)) (hD : Hid (SlRows leV 3 w B D)) (CG : Hid (A = none → gn = 0 ∧ gc = 0)) (CD : Hid (B = none → dn = 0 ∧ dc = 0)) (htn : Hid (tn = T.length)) (htl : tn ≤ 9223372036854775807) (hT : Hid (SlRows oxV 2 w AT T)) (CT : Hid (AT = none → tn = 0 ∧ tc = 0)) (hS : Hid (shortB nm.size dn gn = true)) (hF : Hid (fewB tn = true)) (hE0 : Hid (plnP nm s G D = (N, 0))) (hE1 : Hid (ruE T r = E1)) (hE : Hid (firE [0, E1] = E1)) (hl : Hid (inB k 0 ((dn : Int) - 1) = true)) (hk : k < dn) (hP : Hid (oxyP (legK s G D k) = (ox, oy))) (hne : ¬ E1 = 0) (hnb1 : (E1 != 0) = true) (hne1 : (E1 == 0) = false) :
    Calls Try.prog 4 #[.agg #[.string nm, .int .i64 s, .slice A gn gc, .slice B dn dc], .agg #[.slice AT tn tc, .int .i64 r.a, .int .i64 r.b, .int .i64 r.nc, .int .i64 r.dn, .int .i64 r.br, .int .i64 r.em, .int .i64 r.pa, .int .i64 r.sc], .int .i64 (k : Int)] w fun e w' => e = .returned (.bool true) ∧ Below w.heap.size w w' := by
  have ww : IntKind.i64.wrap ((dn : Int) - 1) = dn - 1 := IntWalk.i64_in _ (by omega)
  have hok := Lib.hid (pln_ok hE0.out)
  have hsb := shortB_le hS.out
  have hz6 : nm.size ≤ 1000000 := by omega
  have hg6 : gn ≤ 1000000 := by omega
  have hd6 : dn ≤ 1000000 := by omega
  have ht22 : tn ≤ 22 := fewB_le hF.out
  have ht6 : tn ≤ 1000000 := by omega
  go_enter Try.func4, Try.ntmps4
  go_wp2_with fail
  refine (awake_any _).mono ?_
  rintro e x1 ⟨rfl, hb1⟩
  have hc1 : Below w.heap.size w x1 := (((Below.refl _ _).alloc (by first | exact Nat.le_refl _ | (simp; done) | (simp; omega)) _).alloc (by first | exact Nat.le_refl _ | (simp; done) | (simp; omega)) _).trans (hb1.mono (by first | exact Nat.le_refl _ | (simp; done) | (simp; omega)))
  have hB1 : Below w.heap.size w x1 := hc1
  have zu1 := hB1.size
  have PB : Hid (BlkF x1 w.heap.size (w.heap.size) [.string nm, .int .i64 s, .slice A gn gc, .slice B dn dc]) := Lib.hid (((BlkF.made (B := w.heap.size) w [.string nm, .int .i64 s, .slice A gn gc, .slice B dn dc] 40 (by first | exact Nat.le_refl _ | (simp; done) | (simp; omega))).below ((Below.refl _ _).alloc (Nat.le_refl _) _)).below hb1)
  have zPB1 := PB.out.lt
  have RB : Hid (BlkF x1 w.heap.size (w.heap.size + 1) [.slice AT tn tc, .int .i64 r.a, .int .i64 r.b, .int .i64 r.nc, .int .i64 r.dn, .int .i64 r.br, .int .i64 r.em, .int .i64 r.pa, .int .i64 r.sc]) := Lib.hid (by have := (BlkF.made (B := w.heap.size) (w.alloc (.cells #[.string nm, .int .i64 s, .slice A gn gc, .slice B dn dc] 40)) [.slice AT tn tc, .int .i64 r.a, .int .i64 r.b, .int .i64 r.nc, .int .i64 r.dn, .int .i64 r.br, .int .i64 r.em, .int .i64 r.pa, .int .i64 r.sc] 26 (by first | exact Nat.le_refl _ | (simp; done) | (simp; omega))).below hb1; simpa using this)
  have zRB1 := RB.out.lt
  clear hb1
  obtain ⟨PB_1_0, PB_1_1, PB_1_2, PB_1_3⟩ := b4 PB.out
  have lPB_1 := PB.out.lt
  have nPB_1 : x1.heap.size ≠ w.heap.size := by omega
  have mPB_1 : w.heap.size ≠ x1.heap.size := by omega
  obtain ⟨RB_1_0, RB_1_1, RB_1_2, RB_1_3, RB_1_4, RB_1_5, RB_1_6, RB_1_7, RB_1_8⟩ := b9 RB.out
  have lRB_1 := RB.out.lt
  have nRB_1 : x1.heap.size ≠ w.heap.size + 1 := by omega
  have mRB_1 : w.heap.size + 1 ≠ x1.heap.size := by omega
  go_wp2_with fail
  refine (Short_is nm s G D A B gn gc dn dc true _ hz hgl hdl hS).mono ?_
  rintro e x2 ⟨rfl, hb2⟩
  have hc2 : Below x1.heap.size x1 x2 := hb2
  have hB2 : Below w.heap.size w x2 := hB1.trans (hc2.mono hB1.size)
  have zu2 := hB2.size
  replace PB := Lib.hid (PB.out.below hc2)
  replace RB := Lib.hid (RB.out.below hc2)
  clear PB_1_0 PB_1_1 PB_1_2 PB_1_3 lPB_1 nPB_1 mPB_1 RB_1_0 RB_1_1 RB_1_2 RB_1_3 RB_1_4 RB_1_5 RB_1_6 RB_1_7 RB_1_8 lRB_1 nRB_1 mRB_1
  clear hb2 hB1 zu1 hc1
  obtain ⟨PB_2_0, PB_2_1, PB_2_2, PB_2_3⟩ := b4 PB.out
  have lPB_2 := PB.out.lt
  have nPB_2 : x2.heap.size ≠ w.heap.size := by omega
  have mPB_2 : w.heap.size ≠ x2.heap.size := by omega
  obtain ⟨RB_2_0, RB_2_1, RB_2_2, RB_2_3, RB_2_4, RB_2_5, RB_2_6, RB_2_7, RB_2_8⟩ := b9 RB.out
  have lRB_2 := RB.out.lt
  have nRB_2 : x2.heap.size ≠ w.heap.size + 1 := by omega
  have mRB_2 : w.heap.size + 1 ≠ x2.heap.size := by omega
  go_wp2_with fail
  refine (few_is r AT tn tc true _ htl hF).mono ?_
  rintro e x3 ⟨rfl, hb3⟩
  have hc3 : Below x2.heap.size x2 x3 := hb3
  have hB3 : Below w.heap.size w x3 := hB2.trans (hc3.mono hB2.size)
  have zu3 := hB3.size
  replace PB := Lib.hid (PB.out.below hc3)
  replace RB := Lib.hid (RB.out.below hc3)
  clear PB_2_0 PB_2_1 PB_2_2 PB_2_3 lPB_2 nPB_2 mPB_2 RB_2_0 RB_2_1 RB_2_2 RB_2_3 RB_2_4 RB_2_5 RB_2_6 RB_2_7 RB_2_8 lRB_2 nRB_2 mRB_2
  clear hb3 hB2 zu2 hc2
  obtain ⟨PB_3_0, PB_3_1, PB_3_2, PB_3_3⟩ := b4 PB.out
  have lPB_3 := PB.out.lt
  have nPB_3 : x3.heap.size ≠ w.heap.size := by omega
  have mPB_3 : w.heap.size ≠ x3.heap.size := by omega
  obtain ⟨RB_3_0, RB_3_1, RB_3_2, RB_3_3, RB_3_4, RB_3_5, RB_3_6, RB_3_7, RB_3_8⟩ := b9 RB.out
  have lRB_3 := RB.out.lt
  have nRB_3 : x3.heap.size ≠ w.heap.size + 1 := by omega
  have mRB_3 : w.heap.size + 1 ≠ x3.heap.size := by omega
  go_upto_region 5 with (fail)
  have HS : Hid (∀ y, Below x3.heap.size x3 y → y.cell? ⟨w.heap.size, 0, none⟩ = some (.string nm) ∧ y.cell? ⟨w.heap.size, 1, none⟩ = some (.int .i64 s) ∧ y.cell? ⟨w.heap.size, 2, none⟩ = some (.slice A gn gc) ∧ y.cell? ⟨w.heap.size, 3, none⟩ = some (.slice B dn dc) ∧ y.cell? ⟨w.heap.size + 1, 0, none⟩ = some (.slice AT tn tc) ∧ y.cell? ⟨w.heap.size + 1, 1, none⟩ = some (.int .i64 r.a) ∧ y.cell? ⟨w.heap.size + 1, 2, none⟩ = some (.int .i64 r.b) ∧ y.cell? ⟨w.heap.size + 1, 3, none⟩ = some (.int .i64 r.nc) ∧ y.cell? ⟨w.heap.size + 1, 4, none⟩ = some (.int .i64 r.dn) ∧ y.cell? ⟨w.heap.size + 1, 5, none⟩ = some (.int .i64 r.br) ∧ y.cell? ⟨w.heap.size + 1, 6, none⟩ = some (.int .i64 r.em) ∧ y.cell? ⟨w.heap.size + 1, 7, none⟩ = some (.int .i64 r.pa) ∧ y.cell? ⟨w.heap.size + 1, 8, none⟩ = some (.int .i64 r.sc)) := Lib.hid fun y hy => ⟨(hy.cell (p := ⟨w.heap.size, 0, none⟩) lPB_3).trans PB_3_0, (hy.cell (p := ⟨w.heap.size, 1, none⟩) lPB_3).trans PB_3_1, (hy.cell (p := ⟨w.heap.size, 2, none⟩) lPB_3).trans PB_3_2, (hy.cell (p := ⟨w.heap.size, 3, none⟩) lPB_3).trans PB_3_3, (hy.cell (p := ⟨w.heap.size + 1, 0, none⟩) lRB_3).trans RB_3_0, (hy.cell (p := ⟨w.heap.size + 1, 1, none⟩) lRB_3).trans RB_3_1, (hy.cell (p := ⟨w.heap.size + 1, 2, none⟩) lRB_3).trans RB_3_2, (hy.cell (p := ⟨w.heap.size + 1, 3, none⟩) lRB_3).trans RB_3_3, (hy.cell (p := ⟨w.heap.size + 1, 4, none⟩) lRB_3).trans RB_3_4, (hy.cell (p := ⟨w.heap.size + 1, 5, none⟩) lRB_3).trans RB_3_5, (hy.cell (p := ⟨w.heap.size + 1, 6, none⟩) lRB_3).trans RB_3_6, (hy.cell (p := ⟨w.heap.size + 1, 7, none⟩) lRB_3).trans RB_3_7, (hy.cell (p := ⟨w.heap.size + 1, 8, none⟩) lRB_3).trans RB_3_8⟩
  refine wp_region_held_drew (S := (fun w' => w'.cell? ⟨w.heap.size, 0, none⟩ = some (.string nm) ∧ w'.cell? ⟨w.heap.size, 1, none⟩ = some (.int .i64 s) ∧ w'.cell? ⟨w.heap.size, 2, none⟩ = some (.slice A gn gc) ∧ w'.cell? ⟨w.heap.size, 3, none⟩ = some (.slice B dn dc) ∧ w'.cell? ⟨w.heap.size + 1, 0, none⟩ = some (.slice AT tn tc) ∧ w'.cell? ⟨w.heap.size + 1, 1, none⟩ = some (.int .i64 r.a) ∧ w'.cell? ⟨w.heap.size + 1, 2, none⟩ = some (.int .i64 r.b) ∧ w'.cell? ⟨w.heap.size + 1, 3, none⟩ = some (.int .i64 r.nc) ∧ w'.cell? ⟨w.heap.size + 1, 4, none⟩ = some (.int .i64 r.dn) ∧ w'.cell? ⟨w.heap.size + 1, 5, none⟩ = some (.int .i64 r.br) ∧ w'.cell? ⟨w.heap.size + 1, 6, none⟩ = some (.int .i64 r.em) ∧ w'.cell? ⟨w.heap.size + 1, 7, none⟩ = some (.int .i64 r.pa) ∧ w'.cell? ⟨w.heap.size + 1, 8, none⟩ = some (.int .i64 r.sc))) (by kernel_rfl) (HS.out _ (Below.refl _ _).drew) (fun hHeld => ?_)
  have hT0 : Below x3.heap.size x3 x3.drew := (Below.refl _ _).drew
  generalize hdr : x3.drew = y3v0 at *
  clear hdr
  refine tkH 0 ⟨some 25, _, _, _, _, _⟩ ?_ rfl ?_ (by assumption) ?_
  rotate_left
  · (intro w hSw; (try dsimp only at hSw); go_simp; all_goals with_reducible rfl)
  try simp only [Act.put, sA, sB, sC]
  refine tkH 2 ⟨some 27, _, _, _, _, _⟩ ?_ rfl ?_ (by assumption) ?_
  rotate_left
  · (intro w hSw; (try dsimp only at hSw); go_simp; all_goals with_reducible rfl)
  try simp only [Act.put, sA, sB, sC]
  refine wpAnyH_ready (rs := [1]) (by kernel_rfl) (by simp) ?_
  refine AllReadyH.cons rfl (fun K hK => ?_) (AllReadyH.nil)
  go_simp
  refine (copyP_is nm s G D A B gn gc dn dc _ hgn hdn hg6 hd6 (Lib.hid (hG.out.below (hB3.trans (hT0.mono hB3.size)))) (Lib.hid (hD.out.below (hB3.trans (hT0.mono hB3.size)))) CG CD).mono ?_
  rintro e y3v1 ⟨A1, ca1, B1, cb1, rfl, hsg, hsd, hna, hnb, hby3v0⟩
  have hT1 : Below x3.heap.size x3 y3v1 := hT0.trans (hby3v0.mono hT0.size)
  have HG1 := Lib.hid hsg
  have HD1 := Lib.hid hsd
  clear hsg hsd hna hnb
  clear hby3v0
  go_wp2_with fail
  refine hK.out _ _ (HS.out _ hT1) (fun hHeld => ?_)
  clear hK K
  try simp only [Act.put, sA, sB, sC]
  refine wpAnyH_ready (rs := [3]) (by kernel_rfl) (by simp) ?_
  refine AllReadyH.cons rfl (fun K hK => ?_) (AllReadyH.nil)
  go_simp
  refine (copyR_is T r AT tn tc _ htn ht6 (Lib.hid (hT.out.below (hB3.trans (hT1.mono hB3.size)))) CT).mono ?_
  rintro e y3v2 ⟨AT1, ct1, rfl, hst, hby3v1⟩
  have hT2 : Below x3.heap.size x3 y3v2 := hT1.trans (hby3v1.mono hT1.size)
  replace HG1 := Lib.hid (HG1.out.below hby3v1)
  replace HD1 := Lib.hid (HD1.out.below hby3v1)
  have HT1 := Lib.hid hst
  clear hst
  clear hby3v1
  go_wp2_with fail
  refine hK.out _ _ (HS.out _ hT2) (fun hHeld => ?_)
  clear hK K
  try simp only [Act.put, sA, sB, sC]
  refine wpAnyH_ready (rs := [4]) (by kernel_rfl) (by simp) ?_
  refine AllReadyH.cons rfl (fun K hK => ?_) (AllReadyH.nil)
  go_simp
  refine (cl_bad (ClockOf_any nm s G D A1 B1 gn ca1 dn cb1 N 0 T r AT1 tn ct1 E1 E1 _ hz hgn hgl hdn hdl HG1 HD1 hE0 htn htl HT1 hE1 hE) hne).mono ?_
  rintro e y3v3 ⟨rfl, hby3v2⟩
  have hT3 : Below x3.heap.size x3 y3v3 := hT2.trans (hby3v2.mono hT2.size)
  replace HG1 := Lib.hid (HG1.out.below hby3v2)
  replace HD1 := Lib.hid (HD1.out.below hby3v2)
  replace HT1 := Lib.hid (HT1.out.below hby3v2)
  clear hby3v2
  go_wp2_with fail
  refine hK.out _ _ (HS.out _ hT3) (fun hHeld => ?_)
  clear hK K
  try simp only [Act.put, sA, sB, sC]
  refine tkH 5 ⟨some 24, _, _, _, _, _⟩ ?_ rfl ?_ (by assumption) ?_
  rotate_left
  · (intro w hSw; (try dsimp only at hSw); go_simp; all_goals with_reducible rfl)
  try simp only [Act.put, sA, sB, sC]
  refine tkH 6 ⟨some 30, _, _, _, _, _⟩ ?_ rfl ?_ (by assumption) ?_
  rotate_left
  · (intro w hSw; (try dsimp only at hSw); go_simp; all_goals with_reducible rfl)
  try simp only [Act.put, sA, sB, sC]
  refine tkH 7 ⟨some 31, _, _, _, _, _⟩ ?_ rfl ?_ (by assumption) ?_
  rotate_left
  · (intro w hSw; (try dsimp only at hSw); go_simp; all_goals with_reducible rfl)
  try simp only [Act.put, sA, sB, sC]
  refine tkH 8 ⟨some 7, _, _, _, _, _⟩ ?_ rfl ?_ (by assumption) ?_
  rotate_left
  · (intro w hSw; (try dsimp only at hSw); go_simp; all_goals with_reducible rfl)
  try simp only [Act.put, sA, sB, sC]
  refine tkH 9 ⟨some 8, _, _, _, _, _⟩ ?_ rfl ?_ (by assumption) ?_
  rotate_left
  · (intro w hSw; (try dsimp only at hSw); go_simp; all_goals with_reducible rfl)
  try simp only [Act.put, sA, sB, sC]
  refine wpAnyH_done (by kernel_rfl) ?_ _
  have hc4 : Below x3.heap.size x3 y3v3 := hT3
  have hB4 : Below w.heap.size w y3v3 := hB3.trans (hc4.mono hB3.size)
  have zu4 := hB4.size
  replace PB := Lib.hid (PB.out.below hc4)
  replace RB := Lib.hid (RB.out.below hc4)
  clear PB_3_0 PB_3_1 PB_3_2 PB_3_3 lPB_3 nPB_3 mPB_3 RB_3_0 RB_3_1 RB_3_2 RB_3_3 RB_3_4 RB_3_5 RB_3_6 RB_3_7 RB_3_8 lRB_3 nRB_3 mRB_3
  clear HS hHeld hT0 hT1 hT2 hT3 hB3 zu3 hc3
  obtain ⟨PB_4_0, PB_4_1, PB_4_2, PB_4_3⟩ := b4 PB.out
  have lPB_4 := PB.out.lt
  have nPB_4 : y3v3.heap.size ≠ w.heap.size := by omega
  have mPB_4 : w.heap.size ≠ y3v3.heap.size := by omega
  obtain ⟨RB_4_0, RB_4_1, RB_4_2, RB_4_3, RB_4_4, RB_4_5, RB_4_6, RB_4_7, RB_4_8⟩ := b9 RB.out
  have lRB_4 := RB.out.lt
  have nRB_4 : y3v3.heap.size ≠ w.heap.size + 1 := by omega
  have mRB_4 : w.heap.size + 1 ≠ y3v3.heap.size := by omega
  clear HG1
  clear HD1
  clear HT1
  go_wp2_with fail
  refine (copyP_is nm s G D A B gn gc dn dc _ hgn hdn hg6 hd6 (Lib.hid (hG.out.below (by (repeat (first | (with_reducible refine Below.drew ?_) | (with_reducible refine below_drewN ?_ _) | (with_reducible refine Below.alloc ?_ (by first | omega | (simp; done) | (simp; omega) | (simp at *; omega)) _) | (with_reducible refine Below.setCell ?_ (by first | omega | (simp; done) | (simp; omega) | (simp at *; omega)) _) | (with_reducible exact Below.refl _ _) | (with_reducible assumption) | (with_reducible refine Below.trans ?_ (Below.mono (by assumption) (by first | omega | (simp; done) | (simp; omega) | (simp at *; omega))))))))) (Lib.hid (hD.out.below (by (repeat (first | (with_reducible refine Below.drew ?_) | (with_reducible refine below_drewN ?_ _) | (with_reducible refine Below.alloc ?_ (by first | omega | (simp; done) | (simp; omega) | (simp at *; omega)) _) | (with_reducible refine Below.setCell ?_ (by first | omega | (simp; done) | (simp; omega) | (simp at *; omega)) _) | (with_reducible exact Below.refl _ _) | (with_reducible assumption) | (with_reducible refine Below.trans ?_ (Below.mono (by assumption) (by first | omega | (simp; done) | (simp; omega) | (simp at *; omega))))))))) CG CD).mono ?_
  rintro e x5 ⟨A2, ca2, B2, cb2, rfl, hsg, hsd, hna, hnb, hb5⟩
  have hc5 : Below y3v3.heap.size y3v3 x5 := hb5
  have hB5 : Below w.heap.size w x5 := hB4.trans (hc5.mono hB4.size)
  have zu5 := hB5.size
  replace PB := Lib.hid (PB.out.below hc5)
  replace RB := Lib.hid (RB.out.below hc5)
  have HG2 := Lib.hid hsg
  have HD2 := Lib.hid hsd
  clear hsg hsd hna hnb
  clear PB_4_0 PB_4_1 PB_4_2 PB_4_3 lPB_4 nPB_4 mPB_4 RB_4_0 RB_4_1 RB_4_2 RB_4_3 RB_4_4 RB_4_5 RB_4_6 RB_4_7 RB_4_8 lRB_4 nRB_4 mRB_4
  clear hb5 hB4 zu4 hc4
  obtain ⟨PB_5_0, PB_5_1, PB_5_2, PB_5_3⟩ := b4 PB.out
  have lPB_5 := PB.out.lt
  have nPB_5 : x5.heap.size ≠ w.heap.size := by omega
  have mPB_5 : w.heap.size ≠ x5.heap.size := by omega
  obtain ⟨RB_5_0, RB_5_1, RB_5_2, RB_5_3, RB_5_4, RB_5_5, RB_5_6, RB_5_7, RB_5_8⟩ := b9 RB.out
  have lRB_5 := RB.out.lt
  have nRB_5 : x5.heap.size ≠ w.heap.size + 1 := by omega
  have mRB_5 : w.heap.size + 1 ≠ x5.heap.size := by omega
  go_wp2_with fail
  refine (OxygenOn_ok nm s G D A2 B2 gn ca2 dn cb2 k N ox oy _ hz hgn hgl hdn hdl HG2 HD2 hE0 hk hP).mono ?_
  rintro e x6 ⟨rfl, hb6⟩
  have hc6 : Below x5.heap.size x5 x6 := hb6
  have hB6 : Below w.heap.size w x6 := hB5.trans (hc6.mono hB5.size)
  have zu6 := hB6.size
  replace HG2 := Lib.hid (HG2.out.below hc6)
  replace HD2 := Lib.hid (HD2.out.below hc6)
  replace PB := Lib.hid (PB.out.below hc6)
  replace RB := Lib.hid (RB.out.below hc6)
  clear PB_5_0 PB_5_1 PB_5_2 PB_5_3 lPB_5 nPB_5 mPB_5 RB_5_0 RB_5_1 RB_5_2 RB_5_3 RB_5_4 RB_5_5 RB_5_6 RB_5_7 RB_5_8 lRB_5 nRB_5 mRB_5
  clear hb6 hB5 zu5 hc5
  obtain ⟨PB_6_0, PB_6_1, PB_6_2, PB_6_3⟩ := b4 PB.out
  have lPB_6 := PB.out.lt
  have nPB_6 : x6.heap.size ≠ w.heap.size := by omega
  have mPB_6 : w.heap.size ≠ x6.heap.size := by omega
  obtain ⟨RB_6_0, RB_6_1, RB_6_2, RB_6_3, RB_6_4, RB_6_5, RB_6_6, RB_6_7, RB_6_8⟩ := b9 RB.out
  have lRB_6 := RB.out.lt
  have nRB_6 : x6.heap.size ≠ w.heap.size + 1 := by omega
  have mRB_6 : w.heap.size + 1 ≠ x6.heap.size := by omega
  clear HG2
  clear HD2
  go_wp2_with fail
  refine (refErr_any nm s G D A B gn gc dn dc N 0 _ hz6 hgn hgl hdn hdl (Lib.hid (hG.out.below (by (repeat (first | (with_reducible refine Below.drew ?_) | (with_reducible refine below_drewN ?_ _) | (with_reducible refine Below.alloc ?_ (by first | omega | (simp; done) | (simp; omega) | (simp at *; omega)) _) | (with_reducible refine Below.setCell ?_ (by first | omega | (simp; done) | (simp; omega) | (simp at *; omega)) _) | (with_reducible exact Below.refl _ _) | (with_reducible assumption) | (with_reducible refine Below.trans ?_ (Below.mono (by assumption) (by first | omega | (simp; done) | (simp; omega) | (simp at *; omega))))))))) (Lib.hid (hD.out.below (by (repeat (first | (with_reducible refine Below.drew ?_) | (with_reducible refine below_drewN ?_ _) | (with_reducible refine Below.alloc ?_ (by first | omega | (simp; done) | (simp; omega) | (simp at *; omega)) _) | (with_reducible refine Below.setCell ?_ (by first | omega | (simp; done) | (simp; omega) | (simp at *; omega)) _) | (with_reducible exact Below.refl _ _) | (with_reducible assumption) | (with_reducible refine Below.trans ?_ (Below.mono (by assumption) (by first | omega | (simp; done) | (simp; omega) | (simp at *; omega))))))))) hE0).mono ?_
  rintro e x7 ⟨rfl, hb7⟩
  have hc7 : Below x6.heap.size x6 x7 := ((Below.refl _ _).alloc (by first | exact Nat.le_refl _ | (simp; done) | (simp; omega)) _).trans (hb7.mono (by first | exact Nat.le_refl _ | (simp; done) | (simp; omega)))
  have hB7 : Below w.heap.size w x7 := hB6.trans (hc7.mono hB6.size)
  have zu7 := hB7.size
  replace PB := Lib.hid (PB.out.below hc7)
  replace RB := Lib.hid (RB.out.below hc7)
  have OB : Hid (BlkF x7 w.heap.size (x6.heap.size) [.int .i64 ox, .int .i64 oy]) := Lib.hid ((BlkF.made (B := w.heap.size) x6 [.int .i64 ox, .int .i64 oy] 47 (by first | exact Nat.le_refl _ | exact hB6.size | (simp; done) | (simp; omega))).below hb7)
  have zOB7 := OB.out.lt
  clear PB_6_0 PB_6_1 PB_6_2 PB_6_3 lPB_6 nPB_6 mPB_6 RB_6_0 RB_6_1 RB_6_2 RB_6_3 RB_6_4 RB_6_5 RB_6_6 RB_6_7 RB_6_8 lRB_6 nRB_6 mRB_6
  clear hb7 hB6 zu6 hc6
  obtain ⟨PB_7_0, PB_7_1, PB_7_2, PB_7_3⟩ := b4 PB.out
  have lPB_7 := PB.out.lt
  have nPB_7 : x7.heap.size ≠ w.heap.size := by omega
  have mPB_7 : w.heap.size ≠ x7.heap.size := by omega
  obtain ⟨RB_7_0, RB_7_1, RB_7_2, RB_7_3, RB_7_4, RB_7_5, RB_7_6, RB_7_7, RB_7_8⟩ := b9 RB.out
  have lRB_7 := RB.out.lt
  have nRB_7 : x7.heap.size ≠ w.heap.size + 1 := by omega
  have mRB_7 : w.heap.size + 1 ≠ x7.heap.size := by omega
  obtain ⟨OB_7_0, OB_7_1⟩ := b2 OB.out
  have lOB_7 := OB.out.lt
  have nOB_7 : x7.heap.size ≠ x6.heap.size := by omega
  have mOB_7 : x6.heap.size ≠ x7.heap.size := by omega
  go_upto_region 10 with (((go_at_call 20; ((with_reducible refine (bW_r _ _ _ _ _ hl).mono ?_)); rintro e w' ⟨rfl, rfl⟩)))
  have HS : Hid (∀ y, Below x7.heap.size x7 y → y.cell? ⟨w.heap.size, 0, none⟩ = some (.string nm) ∧ y.cell? ⟨w.heap.size, 1, none⟩ = some (.int .i64 s) ∧ y.cell? ⟨w.heap.size, 2, none⟩ = some (.slice A gn gc) ∧ y.cell? ⟨w.heap.size, 3, none⟩ = some (.slice B dn dc) ∧ y.cell? ⟨w.heap.size + 1, 0, none⟩ = some (.slice AT tn tc) ∧ y.cell? ⟨w.heap.size + 1, 1, none⟩ = some (.int .i64 r.a) ∧ y.cell? ⟨w.heap.size + 1, 2, none⟩ = some (.int .i64 r.b) ∧ y.cell? ⟨w.heap.size + 1, 3, none⟩ = some (.int .i64 r.nc) ∧ y.cell? ⟨w.heap.size + 1, 4, none⟩ = some (.int .i64 r.dn) ∧ y.cell? ⟨w.heap.size + 1, 5, none⟩ = some (.int .i64 r.br) ∧ y.cell? ⟨w.heap.size + 1, 6, none⟩ = some (.int .i64 r.em) ∧ y.cell? ⟨w.heap.size + 1, 7, none⟩ = some (.int .i64 r.pa) ∧ y.cell? ⟨w.heap.size + 1, 8, none⟩ = some (.int .i64 r.sc) ∧ y.cell? ⟨x6.heap.size, 0, none⟩ = some (.int .i64 ox) ∧ y.cell? ⟨x6.heap.size, 1, none⟩ = some (.int .i64 oy)) := Lib.hid fun y hy => ⟨(hy.cell (p := ⟨w.heap.size, 0, none⟩) lPB_7).trans PB_7_0, (hy.cell (p := ⟨w.heap.size, 1, none⟩) lPB_7).trans PB_7_1, (hy.cell (p := ⟨w.heap.size, 2, none⟩) lPB_7).trans PB_7_2, (hy.cell (p := ⟨w.heap.size, 3, none⟩) lPB_7).trans PB_7_3, (hy.cell (p := ⟨w.heap.size + 1, 0, none⟩) lRB_7).trans RB_7_0, (hy.cell (p := ⟨w.heap.size + 1, 1, none⟩) lRB_7).trans RB_7_1, (hy.cell (p := ⟨w.heap.size + 1, 2, none⟩) lRB_7).trans RB_7_2, (hy.cell (p := ⟨w.heap.size + 1, 3, none⟩) lRB_7).trans RB_7_3, (hy.cell (p := ⟨w.heap.size + 1, 4, none⟩) lRB_7).trans RB_7_4, (hy.cell (p := ⟨w.heap.size + 1, 5, none⟩) lRB_7).trans RB_7_5, (hy.cell (p := ⟨w.heap.size + 1, 6, none⟩) lRB_7).trans RB_7_6, (hy.cell (p := ⟨w.heap.size + 1, 7, none⟩) lRB_7).trans RB_7_7, (hy.cell (p := ⟨w.heap.size + 1, 8, none⟩) lRB_7).trans RB_7_8, (hy.cell (p := ⟨x6.heap.size, 0, none⟩) lOB_7).trans OB_7_0, (hy.cell (p := ⟨x6.heap.size, 1, none⟩) lOB_7).trans OB_7_1⟩
  refine wp_region_held_drew (S := (fun w' => w'.cell? ⟨w.heap.size, 0, none⟩ = some (.string nm) ∧ w'.cell? ⟨w.heap.size, 1, none⟩ = some (.int .i64 s) ∧ w'.cell? ⟨w.heap.size, 2, none⟩ = some (.slice A gn gc) ∧ w'.cell? ⟨w.heap.size, 3, none⟩ = some (.slice B dn dc) ∧ w'.cell? ⟨w.heap.size + 1, 0, none⟩ = some (.slice AT tn tc) ∧ w'.cell? ⟨w.heap.size + 1, 1, none⟩ = some (.int .i64 r.a) ∧ w'.cell? ⟨w.heap.size + 1, 2, none⟩ = some (.int .i64 r.b) ∧ w'.cell? ⟨w.heap.size + 1, 3, none⟩ = some (.int .i64 r.nc) ∧ w'.cell? ⟨w.heap.size + 1, 4, none⟩ = some (.int .i64 r.dn) ∧ w'.cell? ⟨w.heap.size + 1, 5, none⟩ = some (.int .i64 r.br) ∧ w'.cell? ⟨w.heap.size + 1, 6, none⟩ = some (.int .i64 r.em) ∧ w'.cell? ⟨w.heap.size + 1, 7, none⟩ = some (.int .i64 r.pa) ∧ w'.cell? ⟨w.heap.size + 1, 8, none⟩ = some (.int .i64 r.sc) ∧ w'.cell? ⟨x6.heap.size, 0, none⟩ = some (.int .i64 ox) ∧ w'.cell? ⟨x6.heap.size, 1, none⟩ = some (.int .i64 oy))) (by kernel_rfl) (HS.out _ (Below.refl _ _).drew) (fun hHeld => ?_)
  have hT0 : Below x7.heap.size x7 x7.drew := (Below.refl _ _).drew
  generalize hdr : x7.drew = y7v0 at *
  clear hdr
  refine tkH 0 ⟨some 52, _, _, _, _, _⟩ ?_ rfl ?_ (by assumption) ?_
  rotate_left
  · (intro w hSw; (try dsimp only at hSw); go_simp; all_goals with_reducible rfl)
  try simp only [Act.put, sA, sB, sC]
  refine tkH 1 ⟨some 53, _, _, _, _, _⟩ ?_ rfl ?_ (by assumption) ?_
  rotate_left
  · (intro w hSw; (try dsimp only at hSw); go_simp; all_goals with_reducible rfl)
  try simp only [Act.put, sA, sB, sC]
  refine tkH 2 ⟨some 54, _, _, _, _, _⟩ ?_ rfl ?_ (by assumption) ?_
  rotate_left
  · (intro w hSw; (try dsimp only at hSw); go_simp; all_goals with_reducible rfl)
  try simp only [Act.put, sA, sB, sC]
  refine skH 3 ⟨some 55, _, _, _, _, _⟩ rfl (by assumption) ?_
  try simp only [Act.put, sA, sB, sC]
  refine skH 4 ⟨some 56, _, _, _, _, _⟩ rfl (by assumption) ?_
  try simp only [Act.put, sA, sB, sC]
  refine skH 5 ⟨some 57, _, _, _, _, _⟩ rfl (by assumption) ?_
  try simp only [Act.put, sA, sB, sC]
  refine skH 6 ⟨some 58, _, _, _, _, _⟩ rfl (by assumption) ?_
  try simp only [Act.put, sA, sB, sC]
  refine skH 7 ⟨some 59, _, _, _, _, _⟩ rfl (by assumption) ?_
  try simp only [Act.put, sA, sB, sC]
  refine skH 8 ⟨some 60, _, _, _, _, _⟩ rfl (by assumption) ?_
  try simp only [Act.put, sA, sB, sC]
  refine skH 9 ⟨some 61, _, _, _, _, _⟩ rfl (by assumption) ?_
  try simp only [Act.put, sA, sB, sC]
  refine skH 10 ⟨some 62, _, _, _, _, _⟩ rfl (by assumption) ?_
  try simp only [Act.put, sA, sB, sC]
  refine tkH 11 ⟨some 63, _, _, _, _, _⟩ ?_ rfl ?_ (by assumption) ?_
  rotate_left
  · (intro w hSw; (try dsimp only at hSw); go_simp; all_goals with_reducible rfl)
  try simp only [Act.put, sA, sB, sC]
  refine tkH 12 ⟨some 64, _, _, _, _, _⟩ ?_ rfl ?_ (by assumption) ?_
  rotate_left
  · (intro w hSw; (try dsimp only at hSw); go_simp; all_goals with_reducible rfl)
  try simp only [Act.put, sA, sB, sC]
  refine tkH 13 ⟨some 65, _, _, _, _, _⟩ ?_ rfl ?_ (by assumption) ?_
  rotate_left
  · (intro w hSw; (try dsimp only at hSw); go_simp; all_goals with_reducible rfl)
  try simp only [Act.put, sA, sB, sC]
  refine tkH 14 ⟨some 66, _, _, _, _, _⟩ ?_ rfl ?_ (by assumption) ?_
  rotate_left
  · (intro w hSw; (try dsimp only at hSw); go_simp; all_goals with_reducible rfl)
  try simp only [Act.put, sA, sB, sC]
  refine tkH 15 ⟨some 67, _, _, _, _, _⟩ ?_ rfl ?_ (by assumption) ?_
  rotate_left
  · (intro w hSw; (try dsimp only at hSw); go_simp; all_goals with_reducible rfl)
  try simp only [Act.put, sA, sB, sC]
  refine tkH 16 ⟨some 68, _, _, _, _, _⟩ ?_ rfl ?_ (by assumption) ?_
  rotate_left
  · (intro w hSw; (try dsimp only at hSw); go_simp; all_goals with_reducible rfl)
  try simp only [Act.put, sA, sB, sC]
  refine tkH 17 ⟨some 69, _, _, _, _, _⟩ ?_ rfl ?_ (by assumption) ?_
  rotate_left
  · (intro w hSw; (try dsimp only at hSw); go_simp; all_goals with_reducible rfl)
  try simp only [Act.put, sA, sB, sC]
  refine tkH 18 ⟨some 70, _, _, _, _, _⟩ ?_ rfl ?_ (by assumption) ?_
  rotate_left
  · (intro w hSw; (try dsimp only at hSw); go_simp; all_goals with_reducible rfl)
  try simp only [Act.put, sA, sB, sC]
  refine tkH 19 ⟨some 71, _, _, _, _, _⟩ ?_ rfl ?_ (by assumption) ?_
  rotate_left
  · (intro w hSw; (try dsimp only at hSw); go_simp; all_goals with_reducible rfl)
  try simp only [Act.put, sA, sB, sC]
  refine tkH 20 ⟨some 72, _, _, _, _, _⟩ ?_ rfl ?_ (by assumption) ?_
  rotate_left
  · (intro w hSw; (try dsimp only at hSw); go_simp; all_goals with_reducible rfl)
  try simp only [Act.put, sA, sB, sC]
  refine tkH 21 ⟨some 73, _, _, _, _, _⟩ ?_ rfl ?_ (by assumption) ?_
  rotate_left
  · (intro w hSw; (try dsimp only at hSw); go_simp; all_goals with_reducible rfl)
  try simp only [Act.put, sA, sB, sC]
  refine wpAnyH_ready (rs := [22]) (by kernel_rfl) (by simp) ?_
  refine AllReadyH.cons rfl (fun K hK => ?_) (AllReadyH.nil)
  go_simp
  refine (refOxygenOn_ok nm s G D A B gn gc dn dc k ox oy _ hgn hdn hok (Lib.hid (hG.out.below (hB7.trans (hT0.mono hB7.size)))) (Lib.hid (hD.out.below (hB7.trans (hT0.mono hB7.size)))) hk hP).mono ?_
  rintro e y7v1 ⟨rfl, hby7v0⟩
  have hT1 : Below x7.heap.size x7 y7v1 := hT0.trans (hby7v0.mono hT0.size)
  clear hby7v0
  go_wp2_with fail
  refine hK.out _ _ (HS.out _ hT1) (fun hHeld => ?_)
  clear hK K
  try simp only [Act.put, sA, sB, sC]
  refine tkH 23 ⟨some 75, _, _, _, _, _⟩ ?_ rfl ?_ (by assumption) ?_
  rotate_left
  · (intro w hSw; (try dsimp only at hSw); go_simp; all_goals with_reducible rfl)
  try simp only [Act.put, sA, sB, sC]
  refine tkH 24 ⟨some 76, _, _, _, _, _⟩ ?_ rfl ?_ (by assumption) ?_
  rotate_left
  · (intro w hSw; (try dsimp only at hSw); go_simp; all_goals with_reducible rfl)
  try simp only [Act.put, sA, sB, sC]
  refine tkH 25 ⟨some 77, _, _, _, _, _⟩ ?_ rfl ?_ (by assumption) ?_
  rotate_left
  · (intro w hSw; (try dsimp only at hSw); go_simp; all_goals with_reducible rfl)
  try simp only [Act.put, sA, sB, sC]
  refine tkH 26 ⟨some 78, _, _, _, _, _⟩ ?_ rfl ?_ (by assumption) ?_
  rotate_left
  · (intro w hSw; (try dsimp only at hSw); go_simp; all_goals with_reducible rfl)
  try simp only [Act.put, sA, sB, sC]
  refine wpAnyH_done (by kernel_rfl) ?_ _
  have hc8 : Below x7.heap.size x7 y7v1 := hT1
  have hB8 : Below w.heap.size w y7v1 := hB7.trans (hc8.mono hB7.size)
  have zu8 := hB8.size
  replace PB := Lib.hid (PB.out.below hc8)
  replace RB := Lib.hid (RB.out.below hc8)
  replace OB := Lib.hid (OB.out.below hc8)
  clear PB_7_0 PB_7_1 PB_7_2 PB_7_3 lPB_7 nPB_7 mPB_7 RB_7_0 RB_7_1 RB_7_2 RB_7_3 RB_7_4 RB_7_5 RB_7_6 RB_7_7 RB_7_8 lRB_7 nRB_7 mRB_7 OB_7_0 OB_7_1 lOB_7 nOB_7 mOB_7
  clear HS hHeld hT0 hT1 hB7 zu7 hc7
  obtain ⟨PB_8_0, PB_8_1, PB_8_2, PB_8_3⟩ := b4 PB.out
  have lPB_8 := PB.out.lt
  have nPB_8 : y7v1.heap.size ≠ w.heap.size := by omega
  have mPB_8 : w.heap.size ≠ y7v1.heap.size := by omega
  obtain ⟨RB_8_0, RB_8_1, RB_8_2, RB_8_3, RB_8_4, RB_8_5, RB_8_6, RB_8_7, RB_8_8⟩ := b9 RB.out
  have lRB_8 := RB.out.lt
  have nRB_8 : y7v1.heap.size ≠ w.heap.size + 1 := by omega
  have mRB_8 : w.heap.size + 1 ≠ y7v1.heap.size := by omega
  obtain ⟨OB_8_0, OB_8_1⟩ := b2 OB.out
  have lOB_8 := OB.out.lt
  have nOB_8 : y7v1.heap.size ≠ x6.heap.size := by omega
  have mOB_8 : x6.heap.size ≠ y7v1.heap.size := by omega
  go_wp2_with fail
  refine (refBoth_any nm s G D A B gn gc dn dc T r AT tn tc N 0 E1 E1 _ hz6 hgn hgl hdn hdl (Lib.hid (hG.out.below (by (repeat (first | (with_reducible refine Below.drew ?_) | (with_reducible refine below_drewN ?_ _) | (with_reducible refine Below.alloc ?_ (by first | omega | (simp; done) | (simp; omega) | (simp at *; omega)) _) | (with_reducible refine Below.setCell ?_ (by first | omega | (simp; done) | (simp; omega) | (simp at *; omega)) _) | (with_reducible exact Below.refl _ _) | (with_reducible assumption) | (with_reducible refine Below.trans ?_ (Below.mono (by assumption) (by first | omega | (simp; done) | (simp; omega) | (simp at *; omega))))))))) (Lib.hid (hD.out.below (by (repeat (first | (with_reducible refine Below.drew ?_) | (with_reducible refine below_drewN ?_ _) | (with_reducible refine Below.alloc ?_ (by first | omega | (simp; done) | (simp; omega) | (simp at *; omega)) _) | (with_reducible refine Below.setCell ?_ (by first | omega | (simp; done) | (simp; omega) | (simp at *; omega)) _) | (with_reducible exact Below.refl _ _) | (with_reducible assumption) | (with_reducible refine Below.trans ?_ (Below.mono (by assumption) (by first | omega | (simp; done) | (simp; omega) | (simp at *; omega))))))))) hE0 htn htl (Lib.hid (hT.out.below (by (repeat (first | (with_reducible refine Below.drew ?_) | (with_reducible refine below_drewN ?_ _) | (with_reducible refine Below.alloc ?_ (by first | omega | (simp; done) | (simp; omega) | (simp at *; omega)) _) | (with_reducible refine Below.setCell ?_ (by first | omega | (simp; done) | (simp; omega) | (simp at *; omega)) _) | (with_reducible exact Below.refl _ _) | (with_reducible assumption) | (with_reducible refine Below.trans ?_ (Below.mono (by assumption) (by first | omega | (simp; done) | (simp; omega) | (simp at *; omega))))))))) hE1 hE).mono ?_
  rintro e x9 ⟨rfl, hb9⟩
  have hc9 : Below y7v1.heap.size y7v1 x9 := hb9
  have hB9 : Below w.heap.size w x9 := hB8.trans (hc9.mono hB8.size)
  have zu9 := hB9.size
  replace PB := Lib.hid (PB.out.below hc9)
  replace RB := Lib.hid (RB.out.below hc9)
  replace OB := Lib.hid (OB.out.below hc9)
  clear PB_8_0 PB_8_1 PB_8_2 PB_8_3 lPB_8 nPB_8 mPB_8 RB_8_0 RB_8_1 RB_8_2 RB_8_3 RB_8_4 RB_8_5 RB_8_6 RB_8_7 RB_8_8 lRB_8 nRB_8 mRB_8 OB_8_0 OB_8_1 lOB_8 nOB_8 mOB_8
  clear hb9 hB8 zu8 hc8
  obtain ⟨PB_9_0, PB_9_1, PB_9_2, PB_9_3⟩ := b4 PB.out
  have lPB_9 := PB.out.lt
  have nPB_9 : x9.heap.size ≠ w.heap.size := by omega
  have mPB_9 : w.heap.size ≠ x9.heap.size := by omega
  obtain ⟨RB_9_0, RB_9_1, RB_9_2, RB_9_3, RB_9_4, RB_9_5, RB_9_6, RB_9_7, RB_9_8⟩ := b9 RB.out
  have lRB_9 := RB.out.lt
  have nRB_9 : x9.heap.size ≠ w.heap.size + 1 := by omega
  have mRB_9 : w.heap.size + 1 ≠ x9.heap.size := by omega
  obtain ⟨OB_9_0, OB_9_1⟩ := b2 OB.out
  have lOB_9 := OB.out.lt
  have nOB_9 : x9.heap.size ≠ x6.heap.size := by omega
  have mOB_9 : x6.heap.size ≠ x9.heap.size := by omega
  go_wp2
  go_ret
  exact ⟨rfl, hB9⟩
set_option maxRecDepth 100000 in
set_option maxHeartbeats 8000000 in
theorem clk_good (nm : ByteArray) (s : Int) (G : List Ga) (D : List Le) (A B : Option Addr) (gn gc dn dc : Nat) (T : List Ox) (r : Ru) (AT : Option Addr) (tn tc : Nat) (k : Nat) (N : Nat) (ox oy : Int) (w : World) (hz : nm.size ≤ 9223372036854775807) (hgn : Hid (gn = G.length)) (hgl : gn ≤ 9223372036854775807) (hdn : Hid (dn = D.length)) (hdl : dn ≤ 9223372036854775807) (hG : Hid (SlRows gaV 2 w A G)) (hD : Hid (SlRows leV 3 w B D)) (CG : Hid (A = none → gn = 0 ∧ gc = 0)) (CD : Hid (B = none → dn = 0 ∧ dc = 0)) (htn : Hid (tn = T.length)) (htl : tn ≤ 9223372036854775807) (hT : Hid (SlRows oxV 2 w AT T)) (CT : Hid (AT = none → tn = 0 ∧ tc = 0)) (hS : Hid (shortB nm.size dn gn = true)) (hF : Hid (fewB tn = true)) (hE0 : Hid (plnP nm s G D = (N, 0))) (hE1 : Hid (ruE T r = 0)) (hE : Hid (firE [0, 0] = 0)) (hl : Hid (inB k 0 ((dn : Int) - 1) = true)) (hk : k < dn) (hP : Hid (oxyP (legK s G D k) = (ox, oy))) :
    Calls Try.prog 4 #[.agg #[.string nm, .int .i64 s, .slice A gn gc, .slice B dn dc], .agg #[.slice AT tn tc, .int .i64 r.a, .int .i64 r.b, .int .i64 r.nc, .int .i64 r.dn, .int .i64 r.br, .int .i64 r.em, .int .i64 r.pa, .int .i64 r.sc], .int .i64 (k : Int)] w fun e w' => e = .returned (.bool true) ∧ Below w.heap.size w w' := by
  have ww : IntKind.i64.wrap ((dn : Int) - 1) = dn - 1 := IntWalk.i64_in _ (by omega)
  have hok := Lib.hid (pln_ok hE0.out)
  have hox := Lib.hid (ru_ok hE1.out).ox
  have hsb := shortB_le hS.out
  have hz6 : nm.size ≤ 1000000 := by omega
  have hg6 : gn ≤ 1000000 := by omega
  have hd6 : dn ≤ 1000000 := by omega
  have ht22 : tn ≤ 22 := fewB_le hF.out
  have ht6 : tn ≤ 1000000 := by omega
  go_enter Try.func4, Try.ntmps4
  go_wp2_with fail
  refine (awake_any _).mono ?_
  rintro e x1 ⟨rfl, hb1⟩
  have hc1 : Below w.heap.size w x1 := (((Below.refl _ _).alloc (by first | exact Nat.le_refl _ | (simp; done) | (simp; omega)) _).alloc (by first | exact Nat.le_refl _ | (simp; done) | (simp; omega)) _).trans (hb1.mono (by first | exact Nat.le_refl _ | (simp; done) | (simp; omega)))
  have hB1 : Below w.heap.size w x1 := hc1
  have zu1 := hB1.size
  have PB : Hid (BlkF x1 w.heap.size (w.heap.size) [.string nm, .int .i64 s, .slice A gn gc, .slice B dn dc]) := Lib.hid (((BlkF.made (B := w.heap.size) w [.string nm, .int .i64 s, .slice A gn gc, .slice B dn dc] 40 (by first | exact Nat.le_refl _ | (simp; done) | (simp; omega))).below ((Below.refl _ _).alloc (Nat.le_refl _) _)).below hb1)
  have zPB1 := PB.out.lt
  have RB : Hid (BlkF x1 w.heap.size (w.heap.size + 1) [.slice AT tn tc, .int .i64 r.a, .int .i64 r.b, .int .i64 r.nc, .int .i64 r.dn, .int .i64 r.br, .int .i64 r.em, .int .i64 r.pa, .int .i64 r.sc]) := Lib.hid (by have := (BlkF.made (B := w.heap.size) (w.alloc (.cells #[.string nm, .int .i64 s, .slice A gn gc, .slice B dn dc] 40)) [.slice AT tn tc, .int .i64 r.a, .int .i64 r.b, .int .i64 r.nc, .int .i64 r.dn, .int .i64 r.br, .int .i64 r.em, .int .i64 r.pa, .int .i64 r.sc] 26 (by first | exact Nat.le_refl _ | (simp; done) | (simp; omega))).below hb1; simpa using this)
  have zRB1 := RB.out.lt
  clear hb1
  obtain ⟨PB_1_0, PB_1_1, PB_1_2, PB_1_3⟩ := b4 PB.out
  have lPB_1 := PB.out.lt
  have nPB_1 : x1.heap.size ≠ w.heap.size := by omega
  have mPB_1 : w.heap.size ≠ x1.heap.size := by omega
  obtain ⟨RB_1_0, RB_1_1, RB_1_2, RB_1_3, RB_1_4, RB_1_5, RB_1_6, RB_1_7, RB_1_8⟩ := b9 RB.out
  have lRB_1 := RB.out.lt
  have nRB_1 : x1.heap.size ≠ w.heap.size + 1 := by omega
  have mRB_1 : w.heap.size + 1 ≠ x1.heap.size := by omega
  go_wp2_with fail
  refine (Short_is nm s G D A B gn gc dn dc true _ hz hgl hdl hS).mono ?_
  rintro e x2 ⟨rfl, hb2⟩
  have hc2 : Below x1.heap.size x1 x2 := hb2
  have hB2 : Below w.heap.size w x2 := hB1.trans (hc2.mono hB1.size)
  have zu2 := hB2.size
  replace PB := Lib.hid (PB.out.below hc2)
  replace RB := Lib.hid (RB.out.below hc2)
  clear PB_1_0 PB_1_1 PB_1_2 PB_1_3 lPB_1 nPB_1 mPB_1 RB_1_0 RB_1_1 RB_1_2 RB_1_3 RB_1_4 RB_1_5 RB_1_6 RB_1_7 RB_1_8 lRB_1 nRB_1 mRB_1
  clear hb2 hB1 zu1 hc1
  obtain ⟨PB_2_0, PB_2_1, PB_2_2, PB_2_3⟩ := b4 PB.out
  have lPB_2 := PB.out.lt
  have nPB_2 : x2.heap.size ≠ w.heap.size := by omega
  have mPB_2 : w.heap.size ≠ x2.heap.size := by omega
  obtain ⟨RB_2_0, RB_2_1, RB_2_2, RB_2_3, RB_2_4, RB_2_5, RB_2_6, RB_2_7, RB_2_8⟩ := b9 RB.out
  have lRB_2 := RB.out.lt
  have nRB_2 : x2.heap.size ≠ w.heap.size + 1 := by omega
  have mRB_2 : w.heap.size + 1 ≠ x2.heap.size := by omega
  go_wp2_with fail
  refine (few_is r AT tn tc true _ htl hF).mono ?_
  rintro e x3 ⟨rfl, hb3⟩
  have hc3 : Below x2.heap.size x2 x3 := hb3
  have hB3 : Below w.heap.size w x3 := hB2.trans (hc3.mono hB2.size)
  have zu3 := hB3.size
  replace PB := Lib.hid (PB.out.below hc3)
  replace RB := Lib.hid (RB.out.below hc3)
  clear PB_2_0 PB_2_1 PB_2_2 PB_2_3 lPB_2 nPB_2 mPB_2 RB_2_0 RB_2_1 RB_2_2 RB_2_3 RB_2_4 RB_2_5 RB_2_6 RB_2_7 RB_2_8 lRB_2 nRB_2 mRB_2
  clear hb3 hB2 zu2 hc2
  obtain ⟨PB_3_0, PB_3_1, PB_3_2, PB_3_3⟩ := b4 PB.out
  have lPB_3 := PB.out.lt
  have nPB_3 : x3.heap.size ≠ w.heap.size := by omega
  have mPB_3 : w.heap.size ≠ x3.heap.size := by omega
  obtain ⟨RB_3_0, RB_3_1, RB_3_2, RB_3_3, RB_3_4, RB_3_5, RB_3_6, RB_3_7, RB_3_8⟩ := b9 RB.out
  have lRB_3 := RB.out.lt
  have nRB_3 : x3.heap.size ≠ w.heap.size + 1 := by omega
  have mRB_3 : w.heap.size + 1 ≠ x3.heap.size := by omega
  go_upto_region 5 with (fail)
  have HS : Hid (∀ y, Below x3.heap.size x3 y → y.cell? ⟨w.heap.size, 0, none⟩ = some (.string nm) ∧ y.cell? ⟨w.heap.size, 1, none⟩ = some (.int .i64 s) ∧ y.cell? ⟨w.heap.size, 2, none⟩ = some (.slice A gn gc) ∧ y.cell? ⟨w.heap.size, 3, none⟩ = some (.slice B dn dc) ∧ y.cell? ⟨w.heap.size + 1, 0, none⟩ = some (.slice AT tn tc) ∧ y.cell? ⟨w.heap.size + 1, 1, none⟩ = some (.int .i64 r.a) ∧ y.cell? ⟨w.heap.size + 1, 2, none⟩ = some (.int .i64 r.b) ∧ y.cell? ⟨w.heap.size + 1, 3, none⟩ = some (.int .i64 r.nc) ∧ y.cell? ⟨w.heap.size + 1, 4, none⟩ = some (.int .i64 r.dn) ∧ y.cell? ⟨w.heap.size + 1, 5, none⟩ = some (.int .i64 r.br) ∧ y.cell? ⟨w.heap.size + 1, 6, none⟩ = some (.int .i64 r.em) ∧ y.cell? ⟨w.heap.size + 1, 7, none⟩ = some (.int .i64 r.pa) ∧ y.cell? ⟨w.heap.size + 1, 8, none⟩ = some (.int .i64 r.sc)) := Lib.hid fun y hy => ⟨(hy.cell (p := ⟨w.heap.size, 0, none⟩) lPB_3).trans PB_3_0, (hy.cell (p := ⟨w.heap.size, 1, none⟩) lPB_3).trans PB_3_1, (hy.cell (p := ⟨w.heap.size, 2, none⟩) lPB_3).trans PB_3_2, (hy.cell (p := ⟨w.heap.size, 3, none⟩) lPB_3).trans PB_3_3, (hy.cell (p := ⟨w.heap.size + 1, 0, none⟩) lRB_3).trans RB_3_0, (hy.cell (p := ⟨w.heap.size + 1, 1, none⟩) lRB_3).trans RB_3_1, (hy.cell (p := ⟨w.heap.size + 1, 2, none⟩) lRB_3).trans RB_3_2, (hy.cell (p := ⟨w.heap.size + 1, 3, none⟩) lRB_3).trans RB_3_3, (hy.cell (p := ⟨w.heap.size + 1, 4, none⟩) lRB_3).trans RB_3_4, (hy.cell (p := ⟨w.heap.size + 1, 5, none⟩) lRB_3).trans RB_3_5, (hy.cell (p := ⟨w.heap.size + 1, 6, none⟩) lRB_3).trans RB_3_6, (hy.cell (p := ⟨w.heap.size + 1, 7, none⟩) lRB_3).trans RB_3_7, (hy.cell (p := ⟨w.heap.size + 1, 8, none⟩) lRB_3).trans RB_3_8⟩
  refine wp_region_held_drew (S := (fun w' => w'.cell? ⟨w.heap.size, 0, none⟩ = some (.string nm) ∧ w'.cell? ⟨w.heap.size, 1, none⟩ = some (.int .i64 s) ∧ w'.cell? ⟨w.heap.size, 2, none⟩ = some (.slice A gn gc) ∧ w'.cell? ⟨w.heap.size, 3, none⟩ = some (.slice B dn dc) ∧ w'.cell? ⟨w.heap.size + 1, 0, none⟩ = some (.slice AT tn tc) ∧ w'.cell? ⟨w.heap.size + 1, 1, none⟩ = some (.int .i64 r.a) ∧ w'.cell? ⟨w.heap.size + 1, 2, none⟩ = some (.int .i64 r.b) ∧ w'.cell? ⟨w.heap.size + 1, 3, none⟩ = some (.int .i64 r.nc) ∧ w'.cell? ⟨w.heap.size + 1, 4, none⟩ = some (.int .i64 r.dn) ∧ w'.cell? ⟨w.heap.size + 1, 5, none⟩ = some (.int .i64 r.br) ∧ w'.cell? ⟨w.heap.size + 1, 6, none⟩ = some (.int .i64 r.em) ∧ w'.cell? ⟨w.heap.size + 1, 7, none⟩ = some (.int .i64 r.pa) ∧ w'.cell? ⟨w.heap.size + 1, 8, none⟩ = some (.int .i64 r.sc))) (by kernel_rfl) (HS.out _ (Below.refl _ _).drew) (fun hHeld => ?_)
  have hT0 : Below x3.heap.size x3 x3.drew := (Below.refl _ _).drew
  generalize hdr : x3.drew = y3v0 at *
  clear hdr
  refine tkH 0 ⟨some 25, _, _, _, _, _⟩ ?_ rfl ?_ (by assumption) ?_
  rotate_left
  · (intro w hSw; (try dsimp only at hSw); go_simp; all_goals with_reducible rfl)
  try simp only [Act.put, sA, sB, sC]
  refine tkH 2 ⟨some 27, _, _, _, _, _⟩ ?_ rfl ?_ (by assumption) ?_
  rotate_left
  · (intro w hSw; (try dsimp only at hSw); go_simp; all_goals with_reducible rfl)
  try simp only [Act.put, sA, sB, sC]
  refine wpAnyH_ready (rs := [1]) (by kernel_rfl) (by simp) ?_
  refine AllReadyH.cons rfl (fun K hK => ?_) (AllReadyH.nil)
  go_simp
  refine (copyP_is nm s G D A B gn gc dn dc _ hgn hdn hg6 hd6 (Lib.hid (hG.out.below (hB3.trans (hT0.mono hB3.size)))) (Lib.hid (hD.out.below (hB3.trans (hT0.mono hB3.size)))) CG CD).mono ?_
  rintro e y3v1 ⟨A1, ca1, B1, cb1, rfl, hsg, hsd, hna, hnb, hby3v0⟩
  have hT1 : Below x3.heap.size x3 y3v1 := hT0.trans (hby3v0.mono hT0.size)
  have HG1 := Lib.hid hsg
  have HD1 := Lib.hid hsd
  clear hsg hsd hna hnb
  clear hby3v0
  go_wp2_with fail
  refine hK.out _ _ (HS.out _ hT1) (fun hHeld => ?_)
  clear hK K
  try simp only [Act.put, sA, sB, sC]
  refine wpAnyH_ready (rs := [3]) (by kernel_rfl) (by simp) ?_
  refine AllReadyH.cons rfl (fun K hK => ?_) (AllReadyH.nil)
  go_simp
  refine (copyR_is T r AT tn tc _ htn ht6 (Lib.hid (hT.out.below (hB3.trans (hT1.mono hB3.size)))) CT).mono ?_
  rintro e y3v2 ⟨AT1, ct1, rfl, hst, hby3v1⟩
  have hT2 : Below x3.heap.size x3 y3v2 := hT1.trans (hby3v1.mono hT1.size)
  replace HG1 := Lib.hid (HG1.out.below hby3v1)
  replace HD1 := Lib.hid (HD1.out.below hby3v1)
  have HT1 := Lib.hid hst
  clear hst
  clear hby3v1
  go_wp2_with fail
  refine hK.out _ _ (HS.out _ hT2) (fun hHeld => ?_)
  clear hK K
  try simp only [Act.put, sA, sB, sC]
  refine wpAnyH_ready (rs := [4]) (by kernel_rfl) (by simp) ?_
  refine AllReadyH.cons rfl (fun K hK => ?_) (AllReadyH.nil)
  go_simp
  refine (cl_good (ClockOf_any nm s G D A1 B1 gn ca1 dn cb1 N 0 T r AT1 tn ct1 0 0 _ hz hgn hgl hdn hdl HG1 HD1 hE0 htn htl HT1 hE1 hE) rfl).mono ?_
  rintro e y3v3 ⟨C9, c9, rfl, hsC, hcB, hcn, hby3v2⟩
  have hT3 : Below x3.heap.size x3 y3v3 := hT2.trans (hby3v2.mono hT2.size)
  replace HG1 := Lib.hid (HG1.out.below hby3v2)
  replace HD1 := Lib.hid (HD1.out.below hby3v2)
  replace HT1 := Lib.hid (HT1.out.below hby3v2)
  have HC := Lib.hid hsC
  clear hsC hcB hcn
  clear hby3v2
  go_wp2_with fail
  refine hK.out _ _ (HS.out _ hT3) (fun hHeld => ?_)
  clear hK K
  try simp only [Act.put, sA, sB, sC]
  refine tkH 5 ⟨some 24, _, _, _, _, _⟩ ?_ rfl ?_ (by assumption) ?_
  rotate_left
  · (intro w hSw; (try dsimp only at hSw); go_simp; all_goals with_reducible rfl)
  try simp only [Act.put, sA, sB, sC]
  refine tkH 6 ⟨some 30, _, _, _, _, _⟩ ?_ rfl ?_ (by assumption) ?_
  rotate_left
  · (intro w hSw; (try dsimp only at hSw); go_simp; all_goals with_reducible rfl)
  try simp only [Act.put, sA, sB, sC]
  refine tkH 7 ⟨some 31, _, _, _, _, _⟩ ?_ rfl ?_ (by assumption) ?_
  rotate_left
  · (intro w hSw; (try dsimp only at hSw); go_simp; all_goals with_reducible rfl)
  try simp only [Act.put, sA, sB, sC]
  refine tkH 8 ⟨some 7, _, _, _, _, _⟩ ?_ rfl ?_ (by assumption) ?_
  rotate_left
  · (intro w hSw; (try dsimp only at hSw); go_simp; all_goals with_reducible rfl)
  try simp only [Act.put, sA, sB, sC]
  refine tkH 9 ⟨some 8, _, _, _, _, _⟩ ?_ rfl ?_ (by assumption) ?_
  rotate_left
  · (intro w hSw; (try dsimp only at hSw); go_simp; all_goals with_reducible rfl)
  try simp only [Act.put, sA, sB, sC]
  refine wpAnyH_done (by kernel_rfl) ?_ _
  have hc4 : Below x3.heap.size x3 y3v3 := hT3
  have hB4 : Below w.heap.size w y3v3 := hB3.trans (hc4.mono hB3.size)
  have zu4 := hB4.size
  replace PB := Lib.hid (PB.out.below hc4)
  replace RB := Lib.hid (RB.out.below hc4)
  clear PB_3_0 PB_3_1 PB_3_2 PB_3_3 lPB_3 nPB_3 mPB_3 RB_3_0 RB_3_1 RB_3_2 RB_3_3 RB_3_4 RB_3_5 RB_3_6 RB_3_7 RB_3_8 lRB_3 nRB_3 mRB_3
  clear HS hHeld hT0 hT1 hT2 hT3 hB3 zu3 hc3
  obtain ⟨PB_4_0, PB_4_1, PB_4_2, PB_4_3⟩ := b4 PB.out
  have lPB_4 := PB.out.lt
  have nPB_4 : y3v3.heap.size ≠ w.heap.size := by omega
  have mPB_4 : w.heap.size ≠ y3v3.heap.size := by omega
  obtain ⟨RB_4_0, RB_4_1, RB_4_2, RB_4_3, RB_4_4, RB_4_5, RB_4_6, RB_4_7, RB_4_8⟩ := b9 RB.out
  have lRB_4 := RB.out.lt
  have nRB_4 : y3v3.heap.size ≠ w.heap.size + 1 := by omega
  have mRB_4 : w.heap.size + 1 ≠ y3v3.heap.size := by omega
  clear HG1
  clear HD1
  clear HT1
  go_wp2_with fail
  refine (copyP_is nm s G D A B gn gc dn dc _ hgn hdn hg6 hd6 (Lib.hid (hG.out.below (by (repeat (first | (with_reducible refine Below.drew ?_) | (with_reducible refine below_drewN ?_ _) | (with_reducible refine Below.alloc ?_ (by first | omega | (simp; done) | (simp; omega) | (simp at *; omega)) _) | (with_reducible refine Below.setCell ?_ (by first | omega | (simp; done) | (simp; omega) | (simp at *; omega)) _) | (with_reducible exact Below.refl _ _) | (with_reducible assumption) | (with_reducible refine Below.trans ?_ (Below.mono (by assumption) (by first | omega | (simp; done) | (simp; omega) | (simp at *; omega))))))))) (Lib.hid (hD.out.below (by (repeat (first | (with_reducible refine Below.drew ?_) | (with_reducible refine below_drewN ?_ _) | (with_reducible refine Below.alloc ?_ (by first | omega | (simp; done) | (simp; omega) | (simp at *; omega)) _) | (with_reducible refine Below.setCell ?_ (by first | omega | (simp; done) | (simp; omega) | (simp at *; omega)) _) | (with_reducible exact Below.refl _ _) | (with_reducible assumption) | (with_reducible refine Below.trans ?_ (Below.mono (by assumption) (by first | omega | (simp; done) | (simp; omega) | (simp at *; omega))))))))) CG CD).mono ?_
  rintro e x5 ⟨A2, ca2, B2, cb2, rfl, hsg, hsd, hna, hnb, hb5⟩
  have hc5 : Below y3v3.heap.size y3v3 x5 := hb5
  have hB5 : Below w.heap.size w x5 := hB4.trans (hc5.mono hB4.size)
  have zu5 := hB5.size
  replace HC := Lib.hid (HC.out.below hc5)
  replace PB := Lib.hid (PB.out.below hc5)
  replace RB := Lib.hid (RB.out.below hc5)
  have HG2 := Lib.hid hsg
  have HD2 := Lib.hid hsd
  clear hsg hsd hna hnb
  clear PB_4_0 PB_4_1 PB_4_2 PB_4_3 lPB_4 nPB_4 mPB_4 RB_4_0 RB_4_1 RB_4_2 RB_4_3 RB_4_4 RB_4_5 RB_4_6 RB_4_7 RB_4_8 lRB_4 nRB_4 mRB_4
  clear hb5 hB4 zu4 hc4
  obtain ⟨PB_5_0, PB_5_1, PB_5_2, PB_5_3⟩ := b4 PB.out
  have lPB_5 := PB.out.lt
  have nPB_5 : x5.heap.size ≠ w.heap.size := by omega
  have mPB_5 : w.heap.size ≠ x5.heap.size := by omega
  obtain ⟨RB_5_0, RB_5_1, RB_5_2, RB_5_3, RB_5_4, RB_5_5, RB_5_6, RB_5_7, RB_5_8⟩ := b9 RB.out
  have lRB_5 := RB.out.lt
  have nRB_5 : x5.heap.size ≠ w.heap.size + 1 := by omega
  have mRB_5 : w.heap.size + 1 ≠ x5.heap.size := by omega
  go_wp2_with fail
  refine (OxygenOn_ok nm s G D A2 B2 gn ca2 dn cb2 k N ox oy _ hz hgn hgl hdn hdl HG2 HD2 hE0 hk hP).mono ?_
  rintro e x6 ⟨rfl, hb6⟩
  have hc6 : Below x5.heap.size x5 x6 := hb6
  have hB6 : Below w.heap.size w x6 := hB5.trans (hc6.mono hB5.size)
  have zu6 := hB6.size
  replace HC := Lib.hid (HC.out.below hc6)
  replace HG2 := Lib.hid (HG2.out.below hc6)
  replace HD2 := Lib.hid (HD2.out.below hc6)
  replace PB := Lib.hid (PB.out.below hc6)
  replace RB := Lib.hid (RB.out.below hc6)
  clear PB_5_0 PB_5_1 PB_5_2 PB_5_3 lPB_5 nPB_5 mPB_5 RB_5_0 RB_5_1 RB_5_2 RB_5_3 RB_5_4 RB_5_5 RB_5_6 RB_5_7 RB_5_8 lRB_5 nRB_5 mRB_5
  clear hb6 hB5 zu5 hc5
  obtain ⟨PB_6_0, PB_6_1, PB_6_2, PB_6_3⟩ := b4 PB.out
  have lPB_6 := PB.out.lt
  have nPB_6 : x6.heap.size ≠ w.heap.size := by omega
  have mPB_6 : w.heap.size ≠ x6.heap.size := by omega
  obtain ⟨RB_6_0, RB_6_1, RB_6_2, RB_6_3, RB_6_4, RB_6_5, RB_6_6, RB_6_7, RB_6_8⟩ := b9 RB.out
  have lRB_6 := RB.out.lt
  have nRB_6 : x6.heap.size ≠ w.heap.size + 1 := by omega
  have mRB_6 : w.heap.size + 1 ≠ x6.heap.size := by omega
  clear HG2
  clear HD2
  go_wp2_with fail
  refine (refErr_any nm s G D A B gn gc dn dc N 0 _ hz6 hgn hgl hdn hdl (Lib.hid (hG.out.below (by (repeat (first | (with_reducible refine Below.drew ?_) | (with_reducible refine below_drewN ?_ _) | (with_reducible refine Below.alloc ?_ (by first | omega | (simp; done) | (simp; omega) | (simp at *; omega)) _) | (with_reducible refine Below.setCell ?_ (by first | omega | (simp; done) | (simp; omega) | (simp at *; omega)) _) | (with_reducible exact Below.refl _ _) | (with_reducible assumption) | (with_reducible refine Below.trans ?_ (Below.mono (by assumption) (by first | omega | (simp; done) | (simp; omega) | (simp at *; omega))))))))) (Lib.hid (hD.out.below (by (repeat (first | (with_reducible refine Below.drew ?_) | (with_reducible refine below_drewN ?_ _) | (with_reducible refine Below.alloc ?_ (by first | omega | (simp; done) | (simp; omega) | (simp at *; omega)) _) | (with_reducible refine Below.setCell ?_ (by first | omega | (simp; done) | (simp; omega) | (simp at *; omega)) _) | (with_reducible exact Below.refl _ _) | (with_reducible assumption) | (with_reducible refine Below.trans ?_ (Below.mono (by assumption) (by first | omega | (simp; done) | (simp; omega) | (simp at *; omega))))))))) hE0).mono ?_
  rintro e x7 ⟨rfl, hb7⟩
  have hc7 : Below x6.heap.size x6 x7 := ((Below.refl _ _).alloc (by first | exact Nat.le_refl _ | (simp; done) | (simp; omega)) _).trans (hb7.mono (by first | exact Nat.le_refl _ | (simp; done) | (simp; omega)))
  have hB7 : Below w.heap.size w x7 := hB6.trans (hc7.mono hB6.size)
  have zu7 := hB7.size
  replace HC := Lib.hid (HC.out.below hc7)
  replace PB := Lib.hid (PB.out.below hc7)
  replace RB := Lib.hid (RB.out.below hc7)
  have OB : Hid (BlkF x7 w.heap.size (x6.heap.size) [.int .i64 ox, .int .i64 oy]) := Lib.hid ((BlkF.made (B := w.heap.size) x6 [.int .i64 ox, .int .i64 oy] 47 (by first | exact Nat.le_refl _ | exact hB6.size | (simp; done) | (simp; omega))).below hb7)
  have zOB7 := OB.out.lt
  clear PB_6_0 PB_6_1 PB_6_2 PB_6_3 lPB_6 nPB_6 mPB_6 RB_6_0 RB_6_1 RB_6_2 RB_6_3 RB_6_4 RB_6_5 RB_6_6 RB_6_7 RB_6_8 lRB_6 nRB_6 mRB_6
  clear hb7 hB6 zu6 hc6
  obtain ⟨PB_7_0, PB_7_1, PB_7_2, PB_7_3⟩ := b4 PB.out
  have lPB_7 := PB.out.lt
  have nPB_7 : x7.heap.size ≠ w.heap.size := by omega
  have mPB_7 : w.heap.size ≠ x7.heap.size := by omega
  obtain ⟨RB_7_0, RB_7_1, RB_7_2, RB_7_3, RB_7_4, RB_7_5, RB_7_6, RB_7_7, RB_7_8⟩ := b9 RB.out
  have lRB_7 := RB.out.lt
  have nRB_7 : x7.heap.size ≠ w.heap.size + 1 := by omega
  have mRB_7 : w.heap.size + 1 ≠ x7.heap.size := by omega
  obtain ⟨OB_7_0, OB_7_1⟩ := b2 OB.out
  have lOB_7 := OB.out.lt
  have nOB_7 : x7.heap.size ≠ x6.heap.size := by omega
  have mOB_7 : x6.heap.size ≠ x7.heap.size := by omega
  go_upto_region 10 with (((go_at_call 20; ((with_reducible refine (bW_r _ _ _ _ _ hl).mono ?_)); rintro e w' ⟨rfl, rfl⟩)))
  have HS : Hid (∀ y, Below x7.heap.size x7 y → y.cell? ⟨w.heap.size, 0, none⟩ = some (.string nm) ∧ y.cell? ⟨w.heap.size, 1, none⟩ = some (.int .i64 s) ∧ y.cell? ⟨w.heap.size, 2, none⟩ = some (.slice A gn gc) ∧ y.cell? ⟨w.heap.size, 3, none⟩ = some (.slice B dn dc) ∧ y.cell? ⟨w.heap.size + 1, 0, none⟩ = some (.slice AT tn tc) ∧ y.cell? ⟨w.heap.size + 1, 1, none⟩ = some (.int .i64 r.a) ∧ y.cell? ⟨w.heap.size + 1, 2, none⟩ = some (.int .i64 r.b) ∧ y.cell? ⟨w.heap.size + 1, 3, none⟩ = some (.int .i64 r.nc) ∧ y.cell? ⟨w.heap.size + 1, 4, none⟩ = some (.int .i64 r.dn) ∧ y.cell? ⟨w.heap.size + 1, 5, none⟩ = some (.int .i64 r.br) ∧ y.cell? ⟨w.heap.size + 1, 6, none⟩ = some (.int .i64 r.em) ∧ y.cell? ⟨w.heap.size + 1, 7, none⟩ = some (.int .i64 r.pa) ∧ y.cell? ⟨w.heap.size + 1, 8, none⟩ = some (.int .i64 r.sc) ∧ y.cell? ⟨x6.heap.size, 0, none⟩ = some (.int .i64 ox) ∧ y.cell? ⟨x6.heap.size, 1, none⟩ = some (.int .i64 oy)) := Lib.hid fun y hy => ⟨(hy.cell (p := ⟨w.heap.size, 0, none⟩) lPB_7).trans PB_7_0, (hy.cell (p := ⟨w.heap.size, 1, none⟩) lPB_7).trans PB_7_1, (hy.cell (p := ⟨w.heap.size, 2, none⟩) lPB_7).trans PB_7_2, (hy.cell (p := ⟨w.heap.size, 3, none⟩) lPB_7).trans PB_7_3, (hy.cell (p := ⟨w.heap.size + 1, 0, none⟩) lRB_7).trans RB_7_0, (hy.cell (p := ⟨w.heap.size + 1, 1, none⟩) lRB_7).trans RB_7_1, (hy.cell (p := ⟨w.heap.size + 1, 2, none⟩) lRB_7).trans RB_7_2, (hy.cell (p := ⟨w.heap.size + 1, 3, none⟩) lRB_7).trans RB_7_3, (hy.cell (p := ⟨w.heap.size + 1, 4, none⟩) lRB_7).trans RB_7_4, (hy.cell (p := ⟨w.heap.size + 1, 5, none⟩) lRB_7).trans RB_7_5, (hy.cell (p := ⟨w.heap.size + 1, 6, none⟩) lRB_7).trans RB_7_6, (hy.cell (p := ⟨w.heap.size + 1, 7, none⟩) lRB_7).trans RB_7_7, (hy.cell (p := ⟨w.heap.size + 1, 8, none⟩) lRB_7).trans RB_7_8, (hy.cell (p := ⟨x6.heap.size, 0, none⟩) lOB_7).trans OB_7_0, (hy.cell (p := ⟨x6.heap.size, 1, none⟩) lOB_7).trans OB_7_1⟩
  refine wp_region_held_drew (S := (fun w' => w'.cell? ⟨w.heap.size, 0, none⟩ = some (.string nm) ∧ w'.cell? ⟨w.heap.size, 1, none⟩ = some (.int .i64 s) ∧ w'.cell? ⟨w.heap.size, 2, none⟩ = some (.slice A gn gc) ∧ w'.cell? ⟨w.heap.size, 3, none⟩ = some (.slice B dn dc) ∧ w'.cell? ⟨w.heap.size + 1, 0, none⟩ = some (.slice AT tn tc) ∧ w'.cell? ⟨w.heap.size + 1, 1, none⟩ = some (.int .i64 r.a) ∧ w'.cell? ⟨w.heap.size + 1, 2, none⟩ = some (.int .i64 r.b) ∧ w'.cell? ⟨w.heap.size + 1, 3, none⟩ = some (.int .i64 r.nc) ∧ w'.cell? ⟨w.heap.size + 1, 4, none⟩ = some (.int .i64 r.dn) ∧ w'.cell? ⟨w.heap.size + 1, 5, none⟩ = some (.int .i64 r.br) ∧ w'.cell? ⟨w.heap.size + 1, 6, none⟩ = some (.int .i64 r.em) ∧ w'.cell? ⟨w.heap.size + 1, 7, none⟩ = some (.int .i64 r.pa) ∧ w'.cell? ⟨w.heap.size + 1, 8, none⟩ = some (.int .i64 r.sc) ∧ w'.cell? ⟨x6.heap.size, 0, none⟩ = some (.int .i64 ox) ∧ w'.cell? ⟨x6.heap.size, 1, none⟩ = some (.int .i64 oy))) (by kernel_rfl) (HS.out _ (Below.refl _ _).drew) (fun hHeld => ?_)
  have hT0 : Below x7.heap.size x7 x7.drew := (Below.refl _ _).drew
  generalize hdr : x7.drew = y7v0 at *
  clear hdr
  refine tkH 0 ⟨some 52, _, _, _, _, _⟩ ?_ rfl ?_ (by assumption) ?_
  rotate_left
  · (intro w hSw; (try dsimp only at hSw); go_simp; all_goals with_reducible rfl)
  try simp only [Act.put, sA, sB, sC]
  refine tkH 1 ⟨some 53, _, _, _, _, _⟩ ?_ rfl ?_ (by assumption) ?_
  rotate_left
  · (intro w hSw; (try dsimp only at hSw); go_simp; all_goals with_reducible rfl)
  try simp only [Act.put, sA, sB, sC]
  refine tkH 2 ⟨some 54, _, _, _, _, _⟩ ?_ rfl ?_ (by assumption) ?_
  rotate_left
  · (intro w hSw; (try dsimp only at hSw); go_simp; all_goals with_reducible rfl)
  try simp only [Act.put, sA, sB, sC]
  refine skH 3 ⟨some 55, _, _, _, _, _⟩ rfl (by assumption) ?_
  try simp only [Act.put, sA, sB, sC]
  refine skH 4 ⟨some 56, _, _, _, _, _⟩ rfl (by assumption) ?_
  try simp only [Act.put, sA, sB, sC]
  refine skH 5 ⟨some 57, _, _, _, _, _⟩ rfl (by assumption) ?_
  try simp only [Act.put, sA, sB, sC]
  refine skH 6 ⟨some 58, _, _, _, _, _⟩ rfl (by assumption) ?_
  try simp only [Act.put, sA, sB, sC]
  refine skH 7 ⟨some 59, _, _, _, _, _⟩ rfl (by assumption) ?_
  try simp only [Act.put, sA, sB, sC]
  refine skH 8 ⟨some 60, _, _, _, _, _⟩ rfl (by assumption) ?_
  try simp only [Act.put, sA, sB, sC]
  refine skH 9 ⟨some 61, _, _, _, _, _⟩ rfl (by assumption) ?_
  try simp only [Act.put, sA, sB, sC]
  refine skH 10 ⟨some 62, _, _, _, _, _⟩ rfl (by assumption) ?_
  try simp only [Act.put, sA, sB, sC]
  refine tkH 11 ⟨some 63, _, _, _, _, _⟩ ?_ rfl ?_ (by assumption) ?_
  rotate_left
  · (intro w hSw; (try dsimp only at hSw); go_simp; all_goals with_reducible rfl)
  try simp only [Act.put, sA, sB, sC]
  refine tkH 12 ⟨some 64, _, _, _, _, _⟩ ?_ rfl ?_ (by assumption) ?_
  rotate_left
  · (intro w hSw; (try dsimp only at hSw); go_simp; all_goals with_reducible rfl)
  try simp only [Act.put, sA, sB, sC]
  refine tkH 13 ⟨some 65, _, _, _, _, _⟩ ?_ rfl ?_ (by assumption) ?_
  rotate_left
  · (intro w hSw; (try dsimp only at hSw); go_simp; all_goals with_reducible rfl)
  try simp only [Act.put, sA, sB, sC]
  refine tkH 14 ⟨some 66, _, _, _, _, _⟩ ?_ rfl ?_ (by assumption) ?_
  rotate_left
  · (intro w hSw; (try dsimp only at hSw); go_simp; all_goals with_reducible rfl)
  try simp only [Act.put, sA, sB, sC]
  refine tkH 15 ⟨some 67, _, _, _, _, _⟩ ?_ rfl ?_ (by assumption) ?_
  rotate_left
  · (intro w hSw; (try dsimp only at hSw); go_simp; all_goals with_reducible rfl)
  try simp only [Act.put, sA, sB, sC]
  refine tkH 16 ⟨some 68, _, _, _, _, _⟩ ?_ rfl ?_ (by assumption) ?_
  rotate_left
  · (intro w hSw; (try dsimp only at hSw); go_simp; all_goals with_reducible rfl)
  try simp only [Act.put, sA, sB, sC]
  refine tkH 17 ⟨some 69, _, _, _, _, _⟩ ?_ rfl ?_ (by assumption) ?_
  rotate_left
  · (intro w hSw; (try dsimp only at hSw); go_simp; all_goals with_reducible rfl)
  try simp only [Act.put, sA, sB, sC]
  refine tkH 18 ⟨some 70, _, _, _, _, _⟩ ?_ rfl ?_ (by assumption) ?_
  rotate_left
  · (intro w hSw; (try dsimp only at hSw); go_simp; all_goals with_reducible rfl)
  try simp only [Act.put, sA, sB, sC]
  refine tkH 19 ⟨some 71, _, _, _, _, _⟩ ?_ rfl ?_ (by assumption) ?_
  rotate_left
  · (intro w hSw; (try dsimp only at hSw); go_simp; all_goals with_reducible rfl)
  try simp only [Act.put, sA, sB, sC]
  refine tkH 20 ⟨some 72, _, _, _, _, _⟩ ?_ rfl ?_ (by assumption) ?_
  rotate_left
  · (intro w hSw; (try dsimp only at hSw); go_simp; all_goals with_reducible rfl)
  try simp only [Act.put, sA, sB, sC]
  refine tkH 21 ⟨some 73, _, _, _, _, _⟩ ?_ rfl ?_ (by assumption) ?_
  rotate_left
  · (intro w hSw; (try dsimp only at hSw); go_simp; all_goals with_reducible rfl)
  try simp only [Act.put, sA, sB, sC]
  refine wpAnyH_ready (rs := [22]) (by kernel_rfl) (by simp) ?_
  refine AllReadyH.cons rfl (fun K hK => ?_) (AllReadyH.nil)
  go_simp
  refine (refOxygenOn_ok nm s G D A B gn gc dn dc k ox oy _ hgn hdn hok (Lib.hid (hG.out.below (hB7.trans (hT0.mono hB7.size)))) (Lib.hid (hD.out.below (hB7.trans (hT0.mono hB7.size)))) hk hP).mono ?_
  rintro e y7v1 ⟨rfl, hby7v0⟩
  have hT1 : Below x7.heap.size x7 y7v1 := hT0.trans (hby7v0.mono hT0.size)
  clear hby7v0
  go_wp2_with fail
  refine hK.out _ _ (HS.out _ hT1) (fun hHeld => ?_)
  clear hK K
  try simp only [Act.put, sA, sB, sC]
  refine tkH 23 ⟨some 75, _, _, _, _, _⟩ ?_ rfl ?_ (by assumption) ?_
  rotate_left
  · (intro w hSw; (try dsimp only at hSw); go_simp; all_goals with_reducible rfl)
  try simp only [Act.put, sA, sB, sC]
  refine tkH 24 ⟨some 76, _, _, _, _, _⟩ ?_ rfl ?_ (by assumption) ?_
  rotate_left
  · (intro w hSw; (try dsimp only at hSw); go_simp; all_goals with_reducible rfl)
  try simp only [Act.put, sA, sB, sC]
  refine tkH 25 ⟨some 77, _, _, _, _, _⟩ ?_ rfl ?_ (by assumption) ?_
  rotate_left
  · (intro w hSw; (try dsimp only at hSw); go_simp; all_goals with_reducible rfl)
  try simp only [Act.put, sA, sB, sC]
  refine tkH 26 ⟨some 78, _, _, _, _, _⟩ ?_ rfl ?_ (by assumption) ?_
  rotate_left
  · (intro w hSw; (try dsimp only at hSw); go_simp; all_goals with_reducible rfl)
  try simp only [Act.put, sA, sB, sC]
  refine wpAnyH_done (by kernel_rfl) ?_ _
  have hc8 : Below x7.heap.size x7 y7v1 := hT1
  have hB8 : Below w.heap.size w y7v1 := hB7.trans (hc8.mono hB7.size)
  have zu8 := hB8.size
  replace HC := Lib.hid (HC.out.below hc8)
  replace PB := Lib.hid (PB.out.below hc8)
  replace RB := Lib.hid (RB.out.below hc8)
  replace OB := Lib.hid (OB.out.below hc8)
  clear PB_7_0 PB_7_1 PB_7_2 PB_7_3 lPB_7 nPB_7 mPB_7 RB_7_0 RB_7_1 RB_7_2 RB_7_3 RB_7_4 RB_7_5 RB_7_6 RB_7_7 RB_7_8 lRB_7 nRB_7 mRB_7 OB_7_0 OB_7_1 lOB_7 nOB_7 mOB_7
  clear HS hHeld hT0 hT1 hB7 zu7 hc7
  obtain ⟨PB_8_0, PB_8_1, PB_8_2, PB_8_3⟩ := b4 PB.out
  have lPB_8 := PB.out.lt
  have nPB_8 : y7v1.heap.size ≠ w.heap.size := by omega
  have mPB_8 : w.heap.size ≠ y7v1.heap.size := by omega
  obtain ⟨RB_8_0, RB_8_1, RB_8_2, RB_8_3, RB_8_4, RB_8_5, RB_8_6, RB_8_7, RB_8_8⟩ := b9 RB.out
  have lRB_8 := RB.out.lt
  have nRB_8 : y7v1.heap.size ≠ w.heap.size + 1 := by omega
  have mRB_8 : w.heap.size + 1 ≠ y7v1.heap.size := by omega
  obtain ⟨OB_8_0, OB_8_1⟩ := b2 OB.out
  have lOB_8 := OB.out.lt
  have nOB_8 : y7v1.heap.size ≠ x6.heap.size := by omega
  have mOB_8 : x6.heap.size ≠ y7v1.heap.size := by omega
  go_wp2_with fail
  refine (refBoth_any nm s G D A B gn gc dn dc T r AT tn tc N 0 0 0 _ hz6 hgn hgl hdn hdl (Lib.hid (hG.out.below (by (repeat (first | (with_reducible refine Below.drew ?_) | (with_reducible refine below_drewN ?_ _) | (with_reducible refine Below.alloc ?_ (by first | omega | (simp; done) | (simp; omega) | (simp at *; omega)) _) | (with_reducible refine Below.setCell ?_ (by first | omega | (simp; done) | (simp; omega) | (simp at *; omega)) _) | (with_reducible exact Below.refl _ _) | (with_reducible assumption) | (with_reducible refine Below.trans ?_ (Below.mono (by assumption) (by first | omega | (simp; done) | (simp; omega) | (simp at *; omega))))))))) (Lib.hid (hD.out.below (by (repeat (first | (with_reducible refine Below.drew ?_) | (with_reducible refine below_drewN ?_ _) | (with_reducible refine Below.alloc ?_ (by first | omega | (simp; done) | (simp; omega) | (simp at *; omega)) _) | (with_reducible refine Below.setCell ?_ (by first | omega | (simp; done) | (simp; omega) | (simp at *; omega)) _) | (with_reducible exact Below.refl _ _) | (with_reducible assumption) | (with_reducible refine Below.trans ?_ (Below.mono (by assumption) (by first | omega | (simp; done) | (simp; omega) | (simp at *; omega))))))))) hE0 htn htl (Lib.hid (hT.out.below (by (repeat (first | (with_reducible refine Below.drew ?_) | (with_reducible refine below_drewN ?_ _) | (with_reducible refine Below.alloc ?_ (by first | omega | (simp; done) | (simp; omega) | (simp at *; omega)) _) | (with_reducible refine Below.setCell ?_ (by first | omega | (simp; done) | (simp; omega) | (simp at *; omega)) _) | (with_reducible exact Below.refl _ _) | (with_reducible assumption) | (with_reducible refine Below.trans ?_ (Below.mono (by assumption) (by first | omega | (simp; done) | (simp; omega) | (simp at *; omega))))))))) hE1 hE).mono ?_
  rintro e x9 ⟨rfl, hb9⟩
  have hc9 : Below y7v1.heap.size y7v1 x9 := hb9
  have hB9 : Below w.heap.size w x9 := hB8.trans (hc9.mono hB8.size)
  have zu9 := hB9.size
  replace HC := Lib.hid (HC.out.below hc9)
  replace PB := Lib.hid (PB.out.below hc9)
  replace RB := Lib.hid (RB.out.below hc9)
  replace OB := Lib.hid (OB.out.below hc9)
  clear PB_8_0 PB_8_1 PB_8_2 PB_8_3 lPB_8 nPB_8 mPB_8 RB_8_0 RB_8_1 RB_8_2 RB_8_3 RB_8_4 RB_8_5 RB_8_6 RB_8_7 RB_8_8 lRB_8 nRB_8 mRB_8 OB_8_0 OB_8_1 lOB_8 nOB_8 mOB_8
  clear hb9 hB8 zu8 hc8
  obtain ⟨PB_9_0, PB_9_1, PB_9_2, PB_9_3⟩ := b4 PB.out
  have lPB_9 := PB.out.lt
  have nPB_9 : x9.heap.size ≠ w.heap.size := by omega
  have mPB_9 : w.heap.size ≠ x9.heap.size := by omega
  obtain ⟨RB_9_0, RB_9_1, RB_9_2, RB_9_3, RB_9_4, RB_9_5, RB_9_6, RB_9_7, RB_9_8⟩ := b9 RB.out
  have lRB_9 := RB.out.lt
  have nRB_9 : x9.heap.size ≠ w.heap.size + 1 := by omega
  have mRB_9 : w.heap.size + 1 ≠ x9.heap.size := by omega
  obtain ⟨OB_9_0, OB_9_1⟩ := b2 OB.out
  have lOB_9 := OB.out.lt
  have nOB_9 : x9.heap.size ≠ x6.heap.size := by omega
  have mOB_9 : x6.heap.size ≠ x9.heap.size := by omega
  have HB0 := Lib.hid hB9
  have hcl : ((List.range dn).map fun k => clkX T (legK s G D k)).length = dn := by simp
  go_wp2_with fail
  go_loopw [13] (fun i wr => ∃ j : Nat, j ≤ dn ∧ i = .int .i64 j ∧ Hid (BlkF wr w.heap.size w.heap.size [.string nm, .int .i64 s, .slice A gn gc, .slice B dn dc]) ∧ Hid (BlkF wr w.heap.size (w.heap.size + 1) [.slice AT tn tc, .int .i64 r.a, .int .i64 r.b, .int .i64 r.nc, .int .i64 r.dn, .int .i64 r.br, .int .i64 r.em, .int .i64 r.pa, .int .i64 r.sc]) ∧ Hid (SlRows inV 1 wr C9 ((List.range dn).map fun k => clkX T (legK s G D k))) ∧ Below w.heap.size w wr) (fun i _ => dn - (intOf i).toNat)
  case atStart => exact ⟨0, by omega, rfl, PB, RB, HC, HB0.out⟩
  case round =>
    clear PB_9_0 PB_9_1 PB_9_2 PB_9_3 lPB_9 nPB_9 mPB_9 RB_9_0 RB_9_1 RB_9_2 RB_9_3 RB_9_4 RB_9_5 RB_9_6 RB_9_7 RB_9_8 lRB_9 nRB_9 mRB_9 OB_9_0 OB_9_1 lOB_9 nOB_9 mOB_9 PB RB HC OB HB0 hB9 zu9 hc9
    obtain ⟨j, hj, rfl, hP9, hR9, hC9, hBx⟩ := hrel
    have zb := hBx.size
    obtain ⟨c0, c1, c2, c3⟩ := b4 hP9.out
    obtain ⟨r0, r1, r2, r3, r4, r5, r6, r7, r8⟩ := b9 hR9.out
    have lP := hP9.out.lt
    have lR := hR9.out.lt
    by_cases hjn : j < dn
    · have jn : (j : Int) < (dn : Int) := by omega
      have j0 : ¬ (j : Int) < 0 := by omega
      obtain ⟨cb, co, rfl, hlt, hR⟩ := hC9.out.at' (k := j) (by rw [hcl]; exact hjn)
      have q0 := hR j (by rw [hcl]; exact hjn) 0 (by omega)
      obtain ⟨q9, hq9⟩ : ∃ z, Hid (clkV T (legK s G D j).s (oxLo (legK s G D j)) (oxHi (legK s G D j)) = z) := ⟨_, Lib.hid rfl⟩
      have q1 : wr.cell? ⟨cb, co + j * 1 + 0, none⟩ = some (.int .i64 q9) := by
        rw [q0]; simp only [List.getElem_map, List.getElem_range]; unfold clkX; rw [hq9.out]; rfl
      have q2 : wr.cell? ⟨cb, co + j, none⟩ = some (.int .i64 q9) := by simpa using q1
      clear q0 hR
      go_upto_region 20 with (fail)
      have HS : Hid (∀ y, Below wr.heap.size wr y → y.cell? ⟨w.heap.size, 0, none⟩ = some (.string nm) ∧ y.cell? ⟨w.heap.size, 1, none⟩ = some (.int .i64 s) ∧ y.cell? ⟨w.heap.size, 2, none⟩ = some (.slice A gn gc) ∧ y.cell? ⟨w.heap.size, 3, none⟩ = some (.slice B dn dc) ∧ y.cell? ⟨w.heap.size + 1, 0, none⟩ = some (.slice AT tn tc) ∧ y.cell? ⟨w.heap.size + 1, 1, none⟩ = some (.int .i64 r.a) ∧ y.cell? ⟨w.heap.size + 1, 2, none⟩ = some (.int .i64 r.b) ∧ y.cell? ⟨w.heap.size + 1, 3, none⟩ = some (.int .i64 r.nc) ∧ y.cell? ⟨w.heap.size + 1, 4, none⟩ = some (.int .i64 r.dn) ∧ y.cell? ⟨w.heap.size + 1, 5, none⟩ = some (.int .i64 r.br) ∧ y.cell? ⟨w.heap.size + 1, 6, none⟩ = some (.int .i64 r.em) ∧ y.cell? ⟨w.heap.size + 1, 7, none⟩ = some (.int .i64 r.pa) ∧ y.cell? ⟨w.heap.size + 1, 8, none⟩ = some (.int .i64 r.sc) ∧ y.cell? ⟨cb, co + j, none⟩ = some (.int .i64 q9)) := Lib.hid fun y hy => ⟨(hy.cell (p := ⟨w.heap.size, 0, none⟩) lP).trans c0, (hy.cell (p := ⟨w.heap.size, 1, none⟩) lP).trans c1, (hy.cell (p := ⟨w.heap.size, 2, none⟩) lP).trans c2, (hy.cell (p := ⟨w.heap.size, 3, none⟩) lP).trans c3, (hy.cell (p := ⟨w.heap.size + 1, 0, none⟩) lR).trans r0, (hy.cell (p := ⟨w.heap.size + 1, 1, none⟩) lR).trans r1, (hy.cell (p := ⟨w.heap.size + 1, 2, none⟩) lR).trans r2, (hy.cell (p := ⟨w.heap.size + 1, 3, none⟩) lR).trans r3, (hy.cell (p := ⟨w.heap.size + 1, 4, none⟩) lR).trans r4, (hy.cell (p := ⟨w.heap.size + 1, 5, none⟩) lR).trans r5, (hy.cell (p := ⟨w.heap.size + 1, 6, none⟩) lR).trans r6, (hy.cell (p := ⟨w.heap.size + 1, 7, none⟩) lR).trans r7, (hy.cell (p := ⟨w.heap.size + 1, 8, none⟩) lR).trans r8, (hy.cell (p := ⟨cb, co + j, none⟩) hlt).trans q2⟩
      clear c0 c1 c2 c3 r0 r1 r2 r3 r4 r5 r6 r7 r8 q1 q2
      refine wp_region_held_drew (S := (fun w' => w'.cell? ⟨w.heap.size, 0, none⟩ = some (.string nm) ∧ w'.cell? ⟨w.heap.size, 1, none⟩ = some (.int .i64 s) ∧ w'.cell? ⟨w.heap.size, 2, none⟩ = some (.slice A gn gc) ∧ w'.cell? ⟨w.heap.size, 3, none⟩ = some (.slice B dn dc) ∧ w'.cell? ⟨w.heap.size + 1, 0, none⟩ = some (.slice AT tn tc) ∧ w'.cell? ⟨w.heap.size + 1, 1, none⟩ = some (.int .i64 r.a) ∧ w'.cell? ⟨w.heap.size + 1, 2, none⟩ = some (.int .i64 r.b) ∧ w'.cell? ⟨w.heap.size + 1, 3, none⟩ = some (.int .i64 r.nc) ∧ w'.cell? ⟨w.heap.size + 1, 4, none⟩ = some (.int .i64 r.dn) ∧ w'.cell? ⟨w.heap.size + 1, 5, none⟩ = some (.int .i64 r.br) ∧ w'.cell? ⟨w.heap.size + 1, 6, none⟩ = some (.int .i64 r.em) ∧ w'.cell? ⟨w.heap.size + 1, 7, none⟩ = some (.int .i64 r.pa) ∧ w'.cell? ⟨w.heap.size + 1, 8, none⟩ = some (.int .i64 r.sc) ∧ w'.cell? ⟨cb, co + j, none⟩ = some (.int .i64 q9))) (by kernel_rfl) (HS.out _ (Below.refl _ _).drew) (fun hHeld => ?_)
      have hT0 : Below wr.heap.size wr wr.drew := (Below.refl _ _).drew
      generalize hdr : wr.drew = v0 at *
      clear hdr
      refine tkH 0 ⟨some 108, _, _, _, _, _⟩ ?_ rfl ?_ (by assumption) ?_
      rotate_left
      · (intro w hSw; (try dsimp only at hSw); go_simp; all_goals with_reducible rfl)
      try simp only [Act.put, sA, sB, sC]
      refine tkH 1 ⟨some 109, _, _, _, _, _⟩ ?_ rfl ?_ (by assumption) ?_
      rotate_left
      · (intro w hSw; (try dsimp only at hSw); go_simp; all_goals with_reducible rfl)
      try simp only [Act.put, sA, sB, sC]
      refine tkH 2 ⟨some 110, _, _, _, _, _⟩ ?_ rfl ?_ (by assumption) ?_
      rotate_left
      · (intro w hSw; (try dsimp only at hSw); go_simp; all_goals with_reducible rfl)
      try simp only [Act.put, sA, sB, sC]
      refine tkH 3 ⟨some 111, _, _, _, _, _⟩ ?_ rfl ?_ (by assumption) ?_
      rotate_left
      · (intro w hSw; (try dsimp only at hSw); go_simp; all_goals with_reducible rfl)
      try simp only [Act.put, sA, sB, sC]
      refine tkH 4 ⟨some 112, _, _, _, _, _⟩ ?_ rfl ?_ (by assumption) ?_
      rotate_left
      · (intro w hSw; (try dsimp only at hSw); go_simp; all_goals with_reducible rfl)
      try simp only [Act.put, sA, sB, sC]
      refine tkH 5 ⟨some 113, _, _, _, _, _⟩ ?_ rfl ?_ (by assumption) ?_
      rotate_left
      · (intro w hSw; (try dsimp only at hSw); go_simp; all_goals with_reducible rfl)
      try simp only [Act.put, sA, sB, sC]
      refine tkH 6 ⟨some 114, _, _, _, _, _⟩ ?_ rfl ?_ (by assumption) ?_
      rotate_left
      · (intro w hSw; (try dsimp only at hSw); go_simp; all_goals with_reducible rfl)
      try simp only [Act.put, sA, sB, sC]
      refine wpAnyH_ready (rs := [7]) (by kernel_rfl) (by simp) ?_
      refine AllReadyH.cons rfl (fun K hK => ?_) (AllReadyH.nil)
      go_simp
      refine (refClock_is nm s G D A B gn gc dn dc T r AT tn tc j q9 _ hgn hdn hok (Lib.hid (hG.out.below (hBx.trans (hT0.mono hBx.size)))) (Lib.hid (hD.out.below (hBx.trans (hT0.mono hBx.size)))) htn (Lib.hid (hT.out.below (hBx.trans (hT0.mono hBx.size)))) hox hjn hq9).mono ?_
      rintro e v1 ⟨rfl, hbv0⟩
      have hT1 : Below wr.heap.size wr v1 := hT0.trans (hbv0.mono hT0.size)
      clear hbv0
      go_wp2_with fail
      refine hK.out _ _ (HS.out _ hT1) (fun hHeld => ?_)
      clear hK K
      try simp only [Act.put, sA, sB, sC]
      refine tkH 8 ⟨some 116, _, _, _, _, _⟩ ?_ rfl ?_ (by assumption) ?_
      rotate_left
      · (intro w hSw; (try dsimp only at hSw); go_simp; all_goals with_reducible rfl)
      try simp only [Act.put, sA, sB, sC]
      refine wpAnyH_done (by kernel_rfl) ?_ _
      have HBn := Lib.hid (hBx.trans (hT1.mono hBx.size))
      have HPn := Lib.hid (hP9.out.below hT1)
      have HRn := Lib.hid (hR9.out.below hT1)
      have HCn := Lib.hid (hC9.out.below hT1)
      clear hHeld HS
      go_wp2
      go_roundw
      case rel => exact ⟨j + 1, by omega, by go_num, HPn, HRn, HCn, HBn.out⟩
      case measure => simp [intOf]; omega
    · have jn : ¬ (j : Int) < (dn : Int) := by omega
      go_wp2
      go_ret
      exact ⟨rfl, hBx⟩
theorem exposureClocks_r (nm : ByteArray) (s : Int) (G : List Ga) (D : List Le) (A B : Option Addr) (gn gc dn dc : Nat) (T : List Ox) (r : Ru) (AT : Option Addr) (tn tc : Nat) (leg : Int) (w : World) (hz : nm.size ≤ 9223372036854775807) (hgn : Hid (gn = G.length)) (hgl : gn ≤ 9223372036854775807) (hdn : Hid (dn = D.length)) (hdl : dn ≤ 9223372036854775807) (hG : Hid (SlRows gaV 2 w A G)) (hD : Hid (SlRows leV 3 w B D)) (CG : Hid (A = none → gn = 0 ∧ gc = 0)) (CD : Hid (B = none → dn = 0 ∧ dc = 0)) (htn : Hid (tn = T.length)) (htl : tn ≤ 9223372036854775807) (hT : Hid (SlRows oxV 2 w AT T)) (CT : Hid (AT = none → tn = 0 ∧ tc = 0)) :
    Calls Try.prog 4 #[.agg #[.string nm, .int .i64 s, .slice A gn gc, .slice B dn dc], .agg #[.slice AT tn tc, .int .i64 r.a, .int .i64 r.b, .int .i64 r.nc, .int .i64 r.dn, .int .i64 r.br, .int .i64 r.em, .int .i64 r.pa, .int .i64 r.sc], .int .i64 leg] w fun e w' => e = .returned (.bool true) ∧ Below w.heap.size w w' := by
  cases hS : shortB nm.size dn gn with
  | false => exact clk_short nm s G D A B gn gc dn dc T r AT tn tc leg w hz hgn hgl hdn hdl hG hD CG CD htn htl hT CT (Lib.hid hS)
  | true =>
  cases hF : fewB tn with
  | false => exact clk_few nm s G D A B gn gc dn dc T r AT tn tc leg w hz hgn hgl hdn hdl hG hD CG CD htn htl hT CT (Lib.hid hS) (Lib.hid hF)
  | true =>
    obtain ⟨N, E0, hE0⟩ : ∃ N E0, plnP nm s G D = (N, E0) := ⟨_, _, rfl⟩
    by_cases h0 : E0 = 0
    · subst h0
      have hE : firE [0, ruE T r] = ruE T r := by by_cases e : ruE T r = 0 <;> simp [firE, e]
      cases hl : inB leg 0 ((dn : Int) - 1) with
      | false =>
        have h4 : lgE leg dn = 6 := by unfold lgE; rw [hl]; rfl
        by_cases h1 : ruE T r = 0
        · exact clk_l nm s G D A B gn gc dn dc T r AT tn tc leg N w hz hgn hgl hdn hdl hG hD CG CD htn htl hT CT (Lib.hid hS) (Lib.hid hF) (Lib.hid hE0) (Lib.hid h1) (Lib.hid rfl) (Lib.hid hl) (Lib.hid (by rw [h4]; rfl)) (by decide)
        · exact clk_lr nm s G D A B gn gc dn dc T r AT tn tc leg N _ w hz hgn hgl hdn hdl hG hD CG CD htn htl hT CT (Lib.hid hS) (Lib.hid hF) (Lib.hid hE0) (Lib.hid rfl) (Lib.hid hE) (Lib.hid hl) (Lib.hid (by rw [h4]; rfl)) (by decide) h1 (by simpa using h1) (by simpa using h1)
      | true =>
        have y := inB_iff.1 hl
        obtain ⟨k, rfl⟩ : ∃ k : Nat, leg = k := ⟨leg.toNat, by omega⟩
        by_cases h1 : ruE T r = 0
        · exact clk_good nm s G D A B gn gc dn dc T r AT tn tc k N _ _ w hz hgn hgl hdn hdl hG hD CG CD htn htl hT CT (Lib.hid hS) (Lib.hid hF) (Lib.hid hE0) (Lib.hid h1) (Lib.hid rfl) (Lib.hid hl) (by omega) (Lib.hid rfl)
        · exact clk_r nm s G D A B gn gc dn dc T r AT tn tc k N _ _ _ w hz hgn hgl hdn hdl hG hD CG CD htn htl hT CT (Lib.hid hS) (Lib.hid hF) (Lib.hid hE0) (Lib.hid rfl) (Lib.hid hE) (Lib.hid hl) (by omega) (Lib.hid rfl) h1 (by simpa using h1) (by simpa using h1)
    · have h1 : firE [E0, lgE leg dn] = E0 := by rw [firE, if_neg h0]
      have h2 : firE [E0, ruE T r] = E0 := by rw [firE, if_neg h0]
      exact clk_plan nm s G D A B gn gc dn dc T r AT tn tc leg N E0 _ w hz hgn hgl hdn hdl hG hD CG CD htn htl hT CT (Lib.hid hS) (Lib.hid hF) (Lib.hid hE0) (Lib.hid rfl) (Lib.hid h2) (Lib.hid h1) h0 h0 (by simpa using h0) (by simpa using h0)
theorem nilCap {α : Type} {f : α → List Value} {k : Nat} {w : World} {A : Option Addr} {L : List α} {c : Nat} (h : SlRows f k w A L) (hn : A = none → c = 0) : A = none → L.length = 0 ∧ c = 0 := fun e => by
  rcases h with h | ⟨b, o, h, _⟩
  · exact ⟨by rw [h]; rfl, hn e⟩
  · rw [e] at h; cases h
theorem exposureClocks_any (nm : ByteArray) (s : Int) (G : List Ga) (GA : Option Addr) (gc : Nat) (D : List Le) (DA : Option Addr) (dc : Nat) (T : List Ox) (A : Option Addr) (cap : Nat) (ra rb rnc rdn rbr rem rpa rsc : Int) (leg : Int) (w : World) (hnm : nm.size ≤ 9223372036854775807) (hGl : G.length ≤ 9223372036854775807) (hGn : GA = none → gc = 0) (hGs : SlRows gaV 2 w GA G) (hDl : D.length ≤ 9223372036854775807) (hDn : DA = none → dc = 0) (hDs : SlRows leV 3 w DA D) (hTl : T.length ≤ 9223372036854775807) (hTn : A = none → cap = 0) (hTs : SlRows oxV 2 w A T) :
    Calls Try.prog 4 #[.agg #[.string nm, .int .i64 s, .slice GA G.length gc, .slice DA D.length dc], .agg #[.slice A T.length cap, .int .i64 ra, .int .i64 rb, .int .i64 rnc, .int .i64 rdn, .int .i64 rbr, .int .i64 rem, .int .i64 rpa, .int .i64 rsc], .int .i64 leg] w fun e w' => e = .returned (.bool true) ∧ Below w.heap.size w w' := by
  exact exposureClocks_r nm s G D GA DA G.length gc D.length dc T ⟨ra, rb, rnc, rdn, rbr, rem, rpa, rsc⟩ A T.length cap leg w hnm (Lib.hid rfl) hGl (Lib.hid rfl) hDl (Lib.hid hGs) (Lib.hid hDs) (Lib.hid (nilCap hGs hGn)) (Lib.hid (nilCap hDs hDn)) (Lib.hid rfl) hTl (Lib.hid hTs) (Lib.hid (nilCap hTs hTn))
end Go.Proofs.Ytijdphlejokijaa
