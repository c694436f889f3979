import Derived.Test.YtgidmmmdpmophaaRSFBfG
import Derived.Test.YtgidmmmdpmophaaRSFBfN
import Derived.Test.YtgidmmmdpmophaaRSFTsm
import Derived.Test.YtgidmmmdpmophaaRSFEEsc
import Derived.Test.YtgidmmmdpmophaaRSFECta
import Derived.Test.YtgidmmmdpmophaaRSFERct
import Derived.Test.YtgidmmmdpmophaaRSFERvP
import Derived.Outline
namespace Go.Proofs.Ytgidmmmdpmophaa
open Go.ChangeShapes Go.WideShapes Go.ChangeAt Go.RowKit
set_option linter.unusedVariables false
set_option linter.unusedSimpArgs false
attribute [local go_sem ↓] Go.wp_at_zero Go.wp_at_succ
theorem cl_good {P : Program} {f : FuncId} {args : Array Value} {w : World} {E : Int} {R Q : Ending → World → Prop} (h : Calls P f args w fun e w' => (¬ E = 0 ∧ R e w') ∨ (E = 0 ∧ Q e w')) (h0 : E = 0) : Calls P f args w Q := h.mono fun e w' h => h.elim (fun h => absurd h0 h.1) (fun h => h.2)
theorem sl_nvT {X : World} {b : Nat} {l : List (Int × Int)} (h : SlRows nvV 2 X (some ⟨b, 0, none⟩) l) {g : Nat} (hg : g < l.length) {a z : Int} (ha : (l.getD g (0, -1)).1 = a) (hz : (l.getD g (0, -1)).2 = z) :
    X.cell? ⟨b, g * 2, none⟩ = some (.int .i64 a) ∧ X.cell? ⟨b, g * 2 + 1, none⟩ = some (.int .i64 z) := by
  rcases h with h | ⟨c, o, e, _, hR⟩
  · rw [h] at hg; simp at hg
  · cases e
    have e3 : l[g] = l.getD g (0, -1) := by rw [List.getD_eq_getElem?_getD, List.getElem?_eq_getElem hg]; rfl
    have k0 := hR g hg 0 (by omega)
    have k1 := hR g hg 1 (by omega)
    rw [show 0 + g * 2 + 0 = g * 2 by omega, e3] at k0
    rw [show 0 + g * 2 + 1 = g * 2 + 1 by omega, e3] at k1
    rw [← ha, ← hz]
    exact ⟨k0, k1⟩
theorem wB4 (n a b : Int) (r : Bool) (w : World) (h : Hid (inB n a b = r)) : Calls Try.prog 9 #[.int .i64 n, .int .i64 a, .int .i64 b] w fun e w' => e = .returned (.bool r) ∧ Below w.heap.size w w' := (bW_r n a b r w h).mono fun e w' h => ⟨h.1, by rw [← h.2]; exact Below.refl _ _⟩
theorem FewT_is (r : Ru) (AT : Option Addr) (tn tc : Nat) (b : Bool) (w : World) (htl : tn ≤ 9223372036854775807) (hF : Hid (fewB tn = b)) : Calls Try.prog 6 #[.agg #[.slice AT tn tc, .int .i64 r.a, .int .i64 r.b, .int .i64 r.nc, .int .i64 r.dn, .int .i64 r.br, .int .i64 r.em, .int .i64 r.pa, .int .i64 r.sc]] w fun e w' => e = .returned (.bool b) ∧ Below w.heap.size w w' := by
  go_enter Try.func6, Try.ntmps6
  go_wp2_with fail
  refine (few_is r AT tn tc b _ htl hF).mono ?_
  rintro e x1 ⟨rfl, hb1⟩
  have hB1 : Below w.heap.size w x1 := ((Below.refl _ _).alloc (Nat.le_refl _) _).trans (hb1.mono (by simp))
  go_wp2
  go_ret
  exact ⟨rfl, hB1⟩
set_option maxRecDepth 100000 in
set_option maxHeartbeats 8000000 in
theorem rt_brief (nm : ByteArray) (s : Int) (G : List Ga) (D : List Le) (A B : Option Addr) (gn gc dn dc : Nat) (T : List Ox) (r : Ru) (AT : Option Addr) (tn tc : Nat) (t : Int) (sb : Bool) (N : Nat) (E0 : Int) (w : World) (hz : nm.size ≤ 9223372036854775807) (hgn : Hid (gn = G.length)) (hgl : gn ≤ 9223372036854775807) (hdn : Hid (dn = D.length)) (hdl : dn ≤ 9223372036854775807) (hG : Hid (SlRows gaV 2 w A G)) (hD : Hid (SlRows leV 3 w B D)) (CG : Hid (A = none → gn = 0 ∧ gc = 0)) (CD : Hid (B = none → dn = 0 ∧ dc = 0)) (htn : Hid (tn = T.length)) (htl : tn ≤ 9223372036854775807) (hT : Hid (SlRows oxV 2 w AT T)) (CT : Hid (AT = none → tn = 0 ∧ tc = 0)) (hS : Hid (shortB nm.size dn gn = sb)) (hE0 : Hid (plnP nm s G D = (N, E0))) (hb : Hid (briefV sb E0 (secT D dn) = false)) :
    Calls Try.prog 3 #[.agg #[.string nm, .int .i64 s, .slice A gn gc, .slice B dn dc], .agg #[.slice AT tn tc, .int .i64 r.a, .int .i64 r.b, .int .i64 r.nc, .int .i64 r.dn, .int .i64 r.br, .int .i64 r.em, .int .i64 r.pa, .int .i64 r.sc], .int .i64 t] w fun e w' => e = .returned (.bool true) ∧ Below w.heap.size w w' := by
  go_enter Try.func3, Try.ntmps3
  go_wp2_with fail
  refine (exposed_any _).mono ?_
  rintro e x1 ⟨rfl, hb1⟩
  have hc1 : Below w.heap.size w x1 := (((Below.refl _ _).alloc (by first | exact Nat.le_refl _ | (simp; done) | (simp; omega)) _).alloc (by first | exact Nat.le_refl _ | (simp; done) | (simp; omega)) _).trans (hb1.mono (by first | exact Nat.le_refl _ | (simp; done) | (simp; omega)))
  have hB1 : Below w.heap.size w x1 := hc1
  have zu1 := hB1.size
  have PB : Hid (BlkF x1 w.heap.size (w.heap.size) [.string nm, .int .i64 s, .slice A gn gc, .slice B dn dc]) := Lib.hid (((BlkF.made (B := w.heap.size) w [.string nm, .int .i64 s, .slice A gn gc, .slice B dn dc] 25 (by first | exact Nat.le_refl _ | (simp; done) | (simp; omega))).below ((Below.refl _ _).alloc (Nat.le_refl _) _)).below hb1)
  have zPB1 := PB.out.lt
  have RB : Hid (BlkF x1 w.heap.size (w.heap.size + 1) [.slice AT tn tc, .int .i64 r.a, .int .i64 r.b, .int .i64 r.nc, .int .i64 r.dn, .int .i64 r.br, .int .i64 r.em, .int .i64 r.pa, .int .i64 r.sc]) := Lib.hid (by have := (BlkF.made (B := w.heap.size) (w.alloc (.cells #[.string nm, .int .i64 s, .slice A gn gc, .slice B dn dc] 25)) [.slice AT tn tc, .int .i64 r.a, .int .i64 r.b, .int .i64 r.nc, .int .i64 r.dn, .int .i64 r.br, .int .i64 r.em, .int .i64 r.pa, .int .i64 r.sc] 30 (by first | exact Nat.le_refl _ | (simp; done) | (simp; omega))).below hb1; simpa using this)
  have zRB1 := RB.out.lt
  clear hb1
  obtain ⟨PB_1_0, PB_1_1, PB_1_2, PB_1_3⟩ := b4 PB.out
  have lPB_1 := PB.out.lt
  have nPB_1 : x1.heap.size ≠ w.heap.size := by omega
  have mPB_1 : w.heap.size ≠ x1.heap.size := by omega
  obtain ⟨RB_1_0, RB_1_1, RB_1_2, RB_1_3, RB_1_4, RB_1_5, RB_1_6, RB_1_7, RB_1_8⟩ := b9 RB.out
  have lRB_1 := RB.out.lt
  have nRB_1 : x1.heap.size ≠ w.heap.size + 1 := by omega
  have mRB_1 : w.heap.size + 1 ≠ x1.heap.size := by omega
  go_wp2_with fail
  refine (Brief_is nm s G D A B gn gc dn dc sb false N E0 _ hz hgn hgl hdn hdl (Lib.hid (hG.out.below (by (repeat (first | (with_reducible refine Below.drew ?_) | (with_reducible refine below_drewN ?_ _) | (with_reducible refine Below.alloc ?_ (by first | omega | (simp; done) | (simp; omega) | (simp at *; omega)) _) | (with_reducible refine Below.setCell ?_ (by first | omega | (simp; done) | (simp; omega) | (simp at *; omega)) _) | (with_reducible exact Below.refl _ _) | (with_reducible assumption) | (with_reducible refine Below.trans ?_ (Below.mono (by assumption) (by first | omega | (simp; done) | (simp; omega) | (simp at *; omega))))))))) (Lib.hid (hD.out.below (by (repeat (first | (with_reducible refine Below.drew ?_) | (with_reducible refine below_drewN ?_ _) | (with_reducible refine Below.alloc ?_ (by first | omega | (simp; done) | (simp; omega) | (simp at *; omega)) _) | (with_reducible refine Below.setCell ?_ (by first | omega | (simp; done) | (simp; omega) | (simp at *; omega)) _) | (with_reducible exact Below.refl _ _) | (with_reducible assumption) | (with_reducible refine Below.trans ?_ (Below.mono (by assumption) (by first | omega | (simp; done) | (simp; omega) | (simp at *; omega))))))))) hS hE0 hb).mono ?_
  rintro e x2 ⟨rfl, hb2⟩
  have hc2 : Below x1.heap.size x1 x2 := hb2
  have hB2 : Below w.heap.size w x2 := hB1.trans (hc2.mono hB1.size)
  have zu2 := hB2.size
  replace PB := Lib.hid (PB.out.below hc2)
  replace RB := Lib.hid (RB.out.below hc2)
  clear PB_1_0 PB_1_1 PB_1_2 PB_1_3 lPB_1 nPB_1 mPB_1 RB_1_0 RB_1_1 RB_1_2 RB_1_3 RB_1_4 RB_1_5 RB_1_6 RB_1_7 RB_1_8 lRB_1 nRB_1 mRB_1
  clear hb2 hB1 zu1 hc1
  obtain ⟨PB_2_0, PB_2_1, PB_2_2, PB_2_3⟩ := b4 PB.out
  have lPB_2 := PB.out.lt
  have nPB_2 : x2.heap.size ≠ w.heap.size := by omega
  have mPB_2 : w.heap.size ≠ x2.heap.size := by omega
  obtain ⟨RB_2_0, RB_2_1, RB_2_2, RB_2_3, RB_2_4, RB_2_5, RB_2_6, RB_2_7, RB_2_8⟩ := b9 RB.out
  have lRB_2 := RB.out.lt
  have nRB_2 : x2.heap.size ≠ w.heap.size + 1 := by omega
  have mRB_2 : w.heap.size + 1 ≠ x2.heap.size := by omega
  go_wp2
  go_ret
  exact ⟨rfl, hB2⟩
set_option maxRecDepth 100000 in
set_option maxHeartbeats 8000000 in
theorem rt_few (nm : ByteArray) (s : Int) (G : List Ga) (D : List Le) (A B : Option Addr) (gn gc dn dc : Nat) (T : List Ox) (r : Ru) (AT : Option Addr) (tn tc : Nat) (t : Int) (sb : Bool) (N : Nat) (E0 : Int) (w : World) (hz : nm.size ≤ 9223372036854775807) (hgn : Hid (gn = G.length)) (hgl : gn ≤ 9223372036854775807) (hdn : Hid (dn = D.length)) (hdl : dn ≤ 9223372036854775807) (hG : Hid (SlRows gaV 2 w A G)) (hD : Hid (SlRows leV 3 w B D)) (CG : Hid (A = none → gn = 0 ∧ gc = 0)) (CD : Hid (B = none → dn = 0 ∧ dc = 0)) (htn : Hid (tn = T.length)) (htl : tn ≤ 9223372036854775807) (hT : Hid (SlRows oxV 2 w AT T)) (CT : Hid (AT = none → tn = 0 ∧ tc = 0)) (hS : Hid (shortB nm.size dn gn = sb)) (hE0 : Hid (plnP nm s G D = (N, E0))) (hb : Hid (briefV sb E0 (secT D dn) = true)) (hF : Hid (fewB tn = false)) :
    Calls Try.prog 3 #[.agg #[.string nm, .int .i64 s, .slice A gn gc, .slice B dn dc], .agg #[.slice AT tn tc, .int .i64 r.a, .int .i64 r.b, .int .i64 r.nc, .int .i64 r.dn, .int .i64 r.br, .int .i64 r.em, .int .i64 r.pa, .int .i64 r.sc], .int .i64 t] w fun e w' => e = .returned (.bool true) ∧ Below w.heap.size w w' := by
  go_enter Try.func3, Try.ntmps3
  go_wp2_with fail
  refine (exposed_any _).mono ?_
  rintro e x1 ⟨rfl, hb1⟩
  have hc1 : Below w.heap.size w x1 := (((Below.refl _ _).alloc (by first | exact Nat.le_refl _ | (simp; done) | (simp; omega)) _).alloc (by first | exact Nat.le_refl _ | (simp; done) | (simp; omega)) _).trans (hb1.mono (by first | exact Nat.le_refl _ | (simp; done) | (simp; omega)))
  have hB1 : Below w.heap.size w x1 := hc1
  have zu1 := hB1.size
  have PB : Hid (BlkF x1 w.heap.size (w.heap.size) [.string nm, .int .i64 s, .slice A gn gc, .slice B dn dc]) := Lib.hid (((BlkF.made (B := w.heap.size) w [.string nm, .int .i64 s, .slice A gn gc, .slice B dn dc] 25 (by first | exact Nat.le_refl _ | (simp; done) | (simp; omega))).below ((Below.refl _ _).alloc (Nat.le_refl _) _)).below hb1)
  have zPB1 := PB.out.lt
  have RB : Hid (BlkF x1 w.heap.size (w.heap.size + 1) [.slice AT tn tc, .int .i64 r.a, .int .i64 r.b, .int .i64 r.nc, .int .i64 r.dn, .int .i64 r.br, .int .i64 r.em, .int .i64 r.pa, .int .i64 r.sc]) := Lib.hid (by have := (BlkF.made (B := w.heap.size) (w.alloc (.cells #[.string nm, .int .i64 s, .slice A gn gc, .slice B dn dc] 25)) [.slice AT tn tc, .int .i64 r.a, .int .i64 r.b, .int .i64 r.nc, .int .i64 r.dn, .int .i64 r.br, .int .i64 r.em, .int .i64 r.pa, .int .i64 r.sc] 30 (by first | exact Nat.le_refl _ | (simp; done) | (simp; omega))).below hb1; simpa using this)
  have zRB1 := RB.out.lt
  clear hb1
  obtain ⟨PB_1_0, PB_1_1, PB_1_2, PB_1_3⟩ := b4 PB.out
  have lPB_1 := PB.out.lt
  have nPB_1 : x1.heap.size ≠ w.heap.size := by omega
  have mPB_1 : w.heap.size ≠ x1.heap.size := by omega
  obtain ⟨RB_1_0, RB_1_1, RB_1_2, RB_1_3, RB_1_4, RB_1_5, RB_1_6, RB_1_7, RB_1_8⟩ := b9 RB.out
  have lRB_1 := RB.out.lt
  have nRB_1 : x1.heap.size ≠ w.heap.size + 1 := by omega
  have mRB_1 : w.heap.size + 1 ≠ x1.heap.size := by omega
  go_wp2_with fail
  refine (Brief_is nm s G D A B gn gc dn dc sb true N E0 _ hz hgn hgl hdn hdl (Lib.hid (hG.out.below (by (repeat (first | (with_reducible refine Below.drew ?_) | (with_reducible refine below_drewN ?_ _) | (with_reducible refine Below.alloc ?_ (by first | omega | (simp; done) | (simp; omega) | (simp at *; omega)) _) | (with_reducible refine Below.setCell ?_ (by first | omega | (simp; done) | (simp; omega) | (simp at *; omega)) _) | (with_reducible exact Below.refl _ _) | (with_reducible assumption) | (with_reducible refine Below.trans ?_ (Below.mono (by assumption) (by first | omega | (simp; done) | (simp; omega) | (simp at *; omega))))))))) (Lib.hid (hD.out.below (by (repeat (first | (with_reducible refine Below.drew ?_) | (with_reducible refine below_drewN ?_ _) | (with_reducible refine Below.alloc ?_ (by first | omega | (simp; done) | (simp; omega) | (simp at *; omega)) _) | (with_reducible refine Below.setCell ?_ (by first | omega | (simp; done) | (simp; omega) | (simp at *; omega)) _) | (with_reducible exact Below.refl _ _) | (with_reducible assumption) | (with_reducible refine Below.trans ?_ (Below.mono (by assumption) (by first | omega | (simp; done) | (simp; omega) | (simp at *; omega))))))))) hS hE0 hb).mono ?_
  rintro e x2 ⟨rfl, hb2⟩
  have hc2 : Below x1.heap.size x1 x2 := hb2
  have hB2 : Below w.heap.size w x2 := hB1.trans (hc2.mono hB1.size)
  have zu2 := hB2.size
  replace PB := Lib.hid (PB.out.below hc2)
  replace RB := Lib.hid (RB.out.below hc2)
  clear PB_1_0 PB_1_1 PB_1_2 PB_1_3 lPB_1 nPB_1 mPB_1 RB_1_0 RB_1_1 RB_1_2 RB_1_3 RB_1_4 RB_1_5 RB_1_6 RB_1_7 RB_1_8 lRB_1 nRB_1 mRB_1
  clear hb2 hB1 zu1 hc1
  obtain ⟨PB_2_0, PB_2_1, PB_2_2, PB_2_3⟩ := b4 PB.out
  have lPB_2 := PB.out.lt
  have nPB_2 : x2.heap.size ≠ w.heap.size := by omega
  have mPB_2 : w.heap.size ≠ x2.heap.size := by omega
  obtain ⟨RB_2_0, RB_2_1, RB_2_2, RB_2_3, RB_2_4, RB_2_5, RB_2_6, RB_2_7, RB_2_8⟩ := b9 RB.out
  have lRB_2 := RB.out.lt
  have nRB_2 : x2.heap.size ≠ w.heap.size + 1 := by omega
  have mRB_2 : w.heap.size + 1 ≠ x2.heap.size := by omega
  go_wp2_with fail
  refine (FewT_is r AT tn tc false _ htl hF).mono ?_
  rintro e x3 ⟨rfl, hb3⟩
  have hc3 : Below x2.heap.size x2 x3 := hb3
  have hB3 : Below w.heap.size w x3 := hB2.trans (hc3.mono hB2.size)
  have zu3 := hB3.size
  replace PB := Lib.hid (PB.out.below hc3)
  replace RB := Lib.hid (RB.out.below hc3)
  clear PB_2_0 PB_2_1 PB_2_2 PB_2_3 lPB_2 nPB_2 mPB_2 RB_2_0 RB_2_1 RB_2_2 RB_2_3 RB_2_4 RB_2_5 RB_2_6 RB_2_7 RB_2_8 lRB_2 nRB_2 mRB_2
  clear hb3 hB2 zu2 hc2
  obtain ⟨PB_3_0, PB_3_1, PB_3_2, PB_3_3⟩ := b4 PB.out
  have lPB_3 := PB.out.lt
  have nPB_3 : x3.heap.size ≠ w.heap.size := by omega
  have mPB_3 : w.heap.size ≠ x3.heap.size := by omega
  obtain ⟨RB_3_0, RB_3_1, RB_3_2, RB_3_3, RB_3_4, RB_3_5, RB_3_6, RB_3_7, RB_3_8⟩ := b9 RB.out
  have lRB_3 := RB.out.lt
  have nRB_3 : x3.heap.size ≠ w.heap.size + 1 := by omega
  have mRB_3 : w.heap.size + 1 ≠ x3.heap.size := by omega
  go_wp2
  go_ret
  exact ⟨rfl, hB3⟩
set_option maxRecDepth 100000 in
set_option maxHeartbeats 8000000 in
theorem rt_both (nm : ByteArray) (s : Int) (G : List Ga) (D : List Le) (A B : Option Addr) (gn gc dn dc : Nat) (T : List Ox) (r : Ru) (AT : Option Addr) (tn tc : Nat) (t : Int) (sb : Bool) (N : Nat) (E0 E1 E : Int) (w : World) (hz : nm.size ≤ 9223372036854775807) (hgn : Hid (gn = G.length)) (hgl : gn ≤ 9223372036854775807) (hdn : Hid (dn = D.length)) (hdl : dn ≤ 9223372036854775807) (hG : Hid (SlRows gaV 2 w A G)) (hD : Hid (SlRows leV 3 w B D)) (CG : Hid (A = none → gn = 0 ∧ gc = 0)) (CD : Hid (B = none → dn = 0 ∧ dc = 0)) (htn : Hid (tn = T.length)) (htl : tn ≤ 9223372036854775807) (hT : Hid (SlRows oxV 2 w AT T)) (CT : Hid (AT = none → tn = 0 ∧ tc = 0)) (hS1 : Hid (shortB nm.size dn gn = true)) (hS : Hid (shortB nm.size dn gn = sb)) (hE0 : Hid (plnP nm s G D = (N, E0))) (hb : Hid (briefV sb E0 (secT D dn) = true)) (hF : Hid (fewB tn = true)) (hE1 : Hid (ruE T r = E1)) (hEB : Hid (firE [E0, E1] = E)) (h1 : (E != 0) = true) :
    Calls Try.prog 3 #[.agg #[.string nm, .int .i64 s, .slice A gn gc, .slice B dn dc], .agg #[.slice AT tn tc, .int .i64 r.a, .int .i64 r.b, .int .i64 r.nc, .int .i64 r.dn, .int .i64 r.br, .int .i64 r.em, .int .i64 r.pa, .int .i64 r.sc], .int .i64 t] w fun e w' => e = .returned (.bool true) ∧ Below w.heap.size w w' := by
  have hsb := shortB_le hS1.out
  have hz6 : nm.size ≤ 1000000 := by omega
  have hg6 : gn ≤ 1000000 := by omega
  have hd6 : dn ≤ 1000000 := by omega
  have ht22 : tn ≤ 22 := fewB_le hF.out
  have ht6 : tn ≤ 1000000 := by omega
  go_enter Try.func3, Try.ntmps3
  go_wp2_with fail
  refine (exposed_any _).mono ?_
  rintro e x1 ⟨rfl, hb1⟩
  have hc1 : Below w.heap.size w x1 := (((Below.refl _ _).alloc (by first | exact Nat.le_refl _ | (simp; done) | (simp; omega)) _).alloc (by first | exact Nat.le_refl _ | (simp; done) | (simp; omega)) _).trans (hb1.mono (by first | exact Nat.le_refl _ | (simp; done) | (simp; omega)))
  have hB1 : Below w.heap.size w x1 := hc1
  have zu1 := hB1.size
  have PB : Hid (BlkF x1 w.heap.size (w.heap.size) [.string nm, .int .i64 s, .slice A gn gc, .slice B dn dc]) := Lib.hid (((BlkF.made (B := w.heap.size) w [.string nm, .int .i64 s, .slice A gn gc, .slice B dn dc] 25 (by first | exact Nat.le_refl _ | (simp; done) | (simp; omega))).below ((Below.refl _ _).alloc (Nat.le_refl _) _)).below hb1)
  have zPB1 := PB.out.lt
  have RB : Hid (BlkF x1 w.heap.size (w.heap.size + 1) [.slice AT tn tc, .int .i64 r.a, .int .i64 r.b, .int .i64 r.nc, .int .i64 r.dn, .int .i64 r.br, .int .i64 r.em, .int .i64 r.pa, .int .i64 r.sc]) := Lib.hid (by have := (BlkF.made (B := w.heap.size) (w.alloc (.cells #[.string nm, .int .i64 s, .slice A gn gc, .slice B dn dc] 25)) [.slice AT tn tc, .int .i64 r.a, .int .i64 r.b, .int .i64 r.nc, .int .i64 r.dn, .int .i64 r.br, .int .i64 r.em, .int .i64 r.pa, .int .i64 r.sc] 30 (by first | exact Nat.le_refl _ | (simp; done) | (simp; omega))).below hb1; simpa using this)
  have zRB1 := RB.out.lt
  clear hb1
  obtain ⟨PB_1_0, PB_1_1, PB_1_2, PB_1_3⟩ := b4 PB.out
  have lPB_1 := PB.out.lt
  have nPB_1 : x1.heap.size ≠ w.heap.size := by omega
  have mPB_1 : w.heap.size ≠ x1.heap.size := by omega
  obtain ⟨RB_1_0, RB_1_1, RB_1_2, RB_1_3, RB_1_4, RB_1_5, RB_1_6, RB_1_7, RB_1_8⟩ := b9 RB.out
  have lRB_1 := RB.out.lt
  have nRB_1 : x1.heap.size ≠ w.heap.size + 1 := by omega
  have mRB_1 : w.heap.size + 1 ≠ x1.heap.size := by omega
  go_wp2_with fail
  refine (Brief_is nm s G D A B gn gc dn dc sb true N E0 _ hz hgn hgl hdn hdl (Lib.hid (hG.out.below (by (repeat (first | (with_reducible refine Below.drew ?_) | (with_reducible refine below_drewN ?_ _) | (with_reducible refine Below.alloc ?_ (by first | omega | (simp; done) | (simp; omega) | (simp at *; omega)) _) | (with_reducible refine Below.setCell ?_ (by first | omega | (simp; done) | (simp; omega) | (simp at *; omega)) _) | (with_reducible exact Below.refl _ _) | (with_reducible assumption) | (with_reducible refine Below.trans ?_ (Below.mono (by assumption) (by first | omega | (simp; done) | (simp; omega) | (simp at *; omega))))))))) (Lib.hid (hD.out.below (by (repeat (first | (with_reducible refine Below.drew ?_) | (with_reducible refine below_drewN ?_ _) | (with_reducible refine Below.alloc ?_ (by first | omega | (simp; done) | (simp; omega) | (simp at *; omega)) _) | (with_reducible refine Below.setCell ?_ (by first | omega | (simp; done) | (simp; omega) | (simp at *; omega)) _) | (with_reducible exact Below.refl _ _) | (with_reducible assumption) | (with_reducible refine Below.trans ?_ (Below.mono (by assumption) (by first | omega | (simp; done) | (simp; omega) | (simp at *; omega))))))))) hS hE0 hb).mono ?_
  rintro e x2 ⟨rfl, hb2⟩
  have hc2 : Below x1.heap.size x1 x2 := hb2
  have hB2 : Below w.heap.size w x2 := hB1.trans (hc2.mono hB1.size)
  have zu2 := hB2.size
  replace PB := Lib.hid (PB.out.below hc2)
  replace RB := Lib.hid (RB.out.below hc2)
  clear PB_1_0 PB_1_1 PB_1_2 PB_1_3 lPB_1 nPB_1 mPB_1 RB_1_0 RB_1_1 RB_1_2 RB_1_3 RB_1_4 RB_1_5 RB_1_6 RB_1_7 RB_1_8 lRB_1 nRB_1 mRB_1
  clear hb2 hB1 zu1 hc1
  obtain ⟨PB_2_0, PB_2_1, PB_2_2, PB_2_3⟩ := b4 PB.out
  have lPB_2 := PB.out.lt
  have nPB_2 : x2.heap.size ≠ w.heap.size := by omega
  have mPB_2 : w.heap.size ≠ x2.heap.size := by omega
  obtain ⟨RB_2_0, RB_2_1, RB_2_2, RB_2_3, RB_2_4, RB_2_5, RB_2_6, RB_2_7, RB_2_8⟩ := b9 RB.out
  have lRB_2 := RB.out.lt
  have nRB_2 : x2.heap.size ≠ w.heap.size + 1 := by omega
  have mRB_2 : w.heap.size + 1 ≠ x2.heap.size := by omega
  go_wp2_with fail
  refine (FewT_is r AT tn tc true _ htl hF).mono ?_
  rintro e x3 ⟨rfl, hb3⟩
  have hc3 : Below x2.heap.size x2 x3 := hb3
  have hB3 : Below w.heap.size w x3 := hB2.trans (hc3.mono hB2.size)
  have zu3 := hB3.size
  replace PB := Lib.hid (PB.out.below hc3)
  replace RB := Lib.hid (RB.out.below hc3)
  clear PB_2_0 PB_2_1 PB_2_2 PB_2_3 lPB_2 nPB_2 mPB_2 RB_2_0 RB_2_1 RB_2_2 RB_2_3 RB_2_4 RB_2_5 RB_2_6 RB_2_7 RB_2_8 lRB_2 nRB_2 mRB_2
  clear hb3 hB2 zu2 hc2
  obtain ⟨PB_3_0, PB_3_1, PB_3_2, PB_3_3⟩ := b4 PB.out
  have lPB_3 := PB.out.lt
  have nPB_3 : x3.heap.size ≠ w.heap.size := by omega
  have mPB_3 : w.heap.size ≠ x3.heap.size := by omega
  obtain ⟨RB_3_0, RB_3_1, RB_3_2, RB_3_3, RB_3_4, RB_3_5, RB_3_6, RB_3_7, RB_3_8⟩ := b9 RB.out
  have lRB_3 := RB.out.lt
  have nRB_3 : x3.heap.size ≠ w.heap.size + 1 := by omega
  have mRB_3 : w.heap.size + 1 ≠ x3.heap.size := by omega
  go_wp2_with fail
  refine (refBoth_any nm s G D A B gn gc dn dc T r AT tn tc N E0 E1 E _ hz6 hgn hgl hdn hdl (Lib.hid (hG.out.below (by (repeat (first | (with_reducible refine Below.drew ?_) | (with_reducible refine below_drewN ?_ _) | (with_reducible refine Below.alloc ?_ (by first | omega | (simp; done) | (simp; omega) | (simp at *; omega)) _) | (with_reducible refine Below.setCell ?_ (by first | omega | (simp; done) | (simp; omega) | (simp at *; omega)) _) | (with_reducible exact Below.refl _ _) | (with_reducible assumption) | (with_reducible refine Below.trans ?_ (Below.mono (by assumption) (by first | omega | (simp; done) | (simp; omega) | (simp at *; omega))))))))) (Lib.hid (hD.out.below (by (repeat (first | (with_reducible refine Below.drew ?_) | (with_reducible refine below_drewN ?_ _) | (with_reducible refine Below.alloc ?_ (by first | omega | (simp; done) | (simp; omega) | (simp at *; omega)) _) | (with_reducible refine Below.setCell ?_ (by first | omega | (simp; done) | (simp; omega) | (simp at *; omega)) _) | (with_reducible exact Below.refl _ _) | (with_reducible assumption) | (with_reducible refine Below.trans ?_ (Below.mono (by assumption) (by first | omega | (simp; done) | (simp; omega) | (simp at *; omega))))))))) hE0 htn htl (Lib.hid (hT.out.below (by (repeat (first | (with_reducible refine Below.drew ?_) | (with_reducible refine below_drewN ?_ _) | (with_reducible refine Below.alloc ?_ (by first | omega | (simp; done) | (simp; omega) | (simp at *; omega)) _) | (with_reducible refine Below.setCell ?_ (by first | omega | (simp; done) | (simp; omega) | (simp at *; omega)) _) | (with_reducible exact Below.refl _ _) | (with_reducible assumption) | (with_reducible refine Below.trans ?_ (Below.mono (by assumption) (by first | omega | (simp; done) | (simp; omega) | (simp at *; omega))))))))) hE1 hEB).mono ?_
  rintro e x4 ⟨rfl, hb4⟩
  have hc4 : Below x3.heap.size x3 x4 := hb4
  have hB4 : Below w.heap.size w x4 := hB3.trans (hc4.mono hB3.size)
  have zu4 := hB4.size
  replace PB := Lib.hid (PB.out.below hc4)
  replace RB := Lib.hid (RB.out.below hc4)
  clear PB_3_0 PB_3_1 PB_3_2 PB_3_3 lPB_3 nPB_3 mPB_3 RB_3_0 RB_3_1 RB_3_2 RB_3_3 RB_3_4 RB_3_5 RB_3_6 RB_3_7 RB_3_8 lRB_3 nRB_3 mRB_3
  clear hb4 hB3 zu3 hc3
  obtain ⟨PB_4_0, PB_4_1, PB_4_2, PB_4_3⟩ := b4 PB.out
  have lPB_4 := PB.out.lt
  have nPB_4 : x4.heap.size ≠ w.heap.size := by omega
  have mPB_4 : w.heap.size ≠ x4.heap.size := by omega
  obtain ⟨RB_4_0, RB_4_1, RB_4_2, RB_4_3, RB_4_4, RB_4_5, RB_4_6, RB_4_7, RB_4_8⟩ := b9 RB.out
  have lRB_4 := RB.out.lt
  have nRB_4 : x4.heap.size ≠ w.heap.size + 1 := by omega
  have mRB_4 : w.heap.size + 1 ≠ x4.heap.size := by omega
  go_wp2
  go_ret
  exact ⟨rfl, hB4⟩
set_option maxRecDepth 100000 in
set_option maxHeartbeats 8000000 in
theorem rt_long (nm : ByteArray) (s : Int) (G : List Ga) (D : List Le) (A B : Option Addr) (gn gc dn dc : Nat) (T : List Ox) (r : Ru) (AT : Option Addr) (tn tc : Nat) (t : Int) (sb : Bool) (N : Nat) (S : Int) (w : World) (hz : nm.size ≤ 9223372036854775807) (hgn : Hid (gn = G.length)) (hgl : gn ≤ 9223372036854775807) (hdn : Hid (dn = D.length)) (hdl : dn ≤ 9223372036854775807) (hG : Hid (SlRows gaV 2 w A G)) (hD : Hid (SlRows leV 3 w B D)) (CG : Hid (A = none → gn = 0 ∧ gc = 0)) (CD : Hid (B = none → dn = 0 ∧ dc = 0)) (htn : Hid (tn = T.length)) (htl : tn ≤ 9223372036854775807) (hT : Hid (SlRows oxV 2 w AT T)) (CT : Hid (AT = none → tn = 0 ∧ tc = 0)) (hS1 : Hid (shortB nm.size dn gn = true)) (hS : Hid (shortB nm.size dn gn = sb)) (hE0 : Hid (plnP nm s G D = (N, 0))) (hb : Hid (briefV sb 0 (secT D dn) = true)) (hF : Hid (fewB tn = true)) (hE1 : Hid (ruE T r = 0)) (hEB : Hid (firE [0, 0] = 0)) (hok : Hid (PlnOk nm s G D)) (hSS : Hid (secT D dn = S)) (h4 : 400 < S) :
    Calls Try.prog 3 #[.agg #[.string nm, .int .i64 s, .slice A gn gc, .slice B dn dc], .agg #[.slice AT tn tc, .int .i64 r.a, .int .i64 r.b, .int .i64 r.nc, .int .i64 r.dn, .int .i64 r.br, .int .i64 r.em, .int .i64 r.pa, .int .i64 r.sc], .int .i64 t] w fun e w' => e = .returned (.bool true) ∧ Below w.heap.size w w' := by
  have hsb := shortB_le hS1.out
  have hz6 : nm.size ≤ 1000000 := by omega
  have hg6 : gn ≤ 1000000 := by omega
  have hd6 : dn ≤ 1000000 := by omega
  have ht22 : tn ≤ 22 := fewB_le hF.out
  have ht6 : tn ≤ 1000000 := by omega
  go_enter Try.func3, Try.ntmps3
  go_wp2_with fail
  refine (exposed_any _).mono ?_
  rintro e x1 ⟨rfl, hb1⟩
  have hc1 : Below w.heap.size w x1 := (((Below.refl _ _).alloc (by first | exact Nat.le_refl _ | (simp; done) | (simp; omega)) _).alloc (by first | exact Nat.le_refl _ | (simp; done) | (simp; omega)) _).trans (hb1.mono (by first | exact Nat.le_refl _ | (simp; done) | (simp; omega)))
  have hB1 : Below w.heap.size w x1 := hc1
  have zu1 := hB1.size
  have PB : Hid (BlkF x1 w.heap.size (w.heap.size) [.string nm, .int .i64 s, .slice A gn gc, .slice B dn dc]) := Lib.hid (((BlkF.made (B := w.heap.size) w [.string nm, .int .i64 s, .slice A gn gc, .slice B dn dc] 25 (by first | exact Nat.le_refl _ | (simp; done) | (simp; omega))).below ((Below.refl _ _).alloc (Nat.le_refl _) _)).below hb1)
  have zPB1 := PB.out.lt
  have RB : Hid (BlkF x1 w.heap.size (w.heap.size + 1) [.slice AT tn tc, .int .i64 r.a, .int .i64 r.b, .int .i64 r.nc, .int .i64 r.dn, .int .i64 r.br, .int .i64 r.em, .int .i64 r.pa, .int .i64 r.sc]) := Lib.hid (by have := (BlkF.made (B := w.heap.size) (w.alloc (.cells #[.string nm, .int .i64 s, .slice A gn gc, .slice B dn dc] 25)) [.slice AT tn tc, .int .i64 r.a, .int .i64 r.b, .int .i64 r.nc, .int .i64 r.dn, .int .i64 r.br, .int .i64 r.em, .int .i64 r.pa, .int .i64 r.sc] 30 (by first | exact Nat.le_refl _ | (simp; done) | (simp; omega))).below hb1; simpa using this)
  have zRB1 := RB.out.lt
  clear hb1
  obtain ⟨PB_1_0, PB_1_1, PB_1_2, PB_1_3⟩ := b4 PB.out
  have lPB_1 := PB.out.lt
  have nPB_1 : x1.heap.size ≠ w.heap.size := by omega
  have mPB_1 : w.heap.size ≠ x1.heap.size := by omega
  obtain ⟨RB_1_0, RB_1_1, RB_1_2, RB_1_3, RB_1_4, RB_1_5, RB_1_6, RB_1_7, RB_1_8⟩ := b9 RB.out
  have lRB_1 := RB.out.lt
  have nRB_1 : x1.heap.size ≠ w.heap.size + 1 := by omega
  have mRB_1 : w.heap.size + 1 ≠ x1.heap.size := by omega
  go_wp2_with fail
  refine (Brief_is nm s G D A B gn gc dn dc sb true N 0 _ hz hgn hgl hdn hdl (Lib.hid (hG.out.below (by (repeat (first | (with_reducible refine Below.drew ?_) | (with_reducible refine below_drewN ?_ _) | (with_reducible refine Below.alloc ?_ (by first | omega | (simp; done) | (simp; omega) | (simp at *; omega)) _) | (with_reducible refine Below.setCell ?_ (by first | omega | (simp; done) | (simp; omega) | (simp at *; omega)) _) | (with_reducible exact Below.refl _ _) | (with_reducible assumption) | (with_reducible refine Below.trans ?_ (Below.mono (by assumption) (by first | omega | (simp; done) | (simp; omega) | (simp at *; omega))))))))) (Lib.hid (hD.out.below (by (repeat (first | (with_reducible refine Below.drew ?_) | (with_reducible refine below_drewN ?_ _) | (with_reducible refine Below.alloc ?_ (by first | omega | (simp; done) | (simp; omega) | (simp at *; omega)) _) | (with_reducible refine Below.setCell ?_ (by first | omega | (simp; done) | (simp; omega) | (simp at *; omega)) _) | (with_reducible exact Below.refl _ _) | (with_reducible assumption) | (with_reducible refine Below.trans ?_ (Below.mono (by assumption) (by first | omega | (simp; done) | (simp; omega) | (simp at *; omega))))))))) hS hE0 hb).mono ?_
  rintro e x2 ⟨rfl, hb2⟩
  have hc2 : Below x1.heap.size x1 x2 := hb2
  have hB2 : Below w.heap.size w x2 := hB1.trans (hc2.mono hB1.size)
  have zu2 := hB2.size
  replace PB := Lib.hid (PB.out.below hc2)
  replace RB := Lib.hid (RB.out.below hc2)
  clear PB_1_0 PB_1_1 PB_1_2 PB_1_3 lPB_1 nPB_1 mPB_1 RB_1_0 RB_1_1 RB_1_2 RB_1_3 RB_1_4 RB_1_5 RB_1_6 RB_1_7 RB_1_8 lRB_1 nRB_1 mRB_1
  clear hb2 hB1 zu1 hc1
  obtain ⟨PB_2_0, PB_2_1, PB_2_2, PB_2_3⟩ := b4 PB.out
  have lPB_2 := PB.out.lt
  have nPB_2 : x2.heap.size ≠ w.heap.size := by omega
  have mPB_2 : w.heap.size ≠ x2.heap.size := by omega
  obtain ⟨RB_2_0, RB_2_1, RB_2_2, RB_2_3, RB_2_4, RB_2_5, RB_2_6, RB_2_7, RB_2_8⟩ := b9 RB.out
  have lRB_2 := RB.out.lt
  have nRB_2 : x2.heap.size ≠ w.heap.size + 1 := by omega
  have mRB_2 : w.heap.size + 1 ≠ x2.heap.size := by omega
  go_wp2_with fail
  refine (FewT_is r AT tn tc true _ htl hF).mono ?_
  rintro e x3 ⟨rfl, hb3⟩
  have hc3 : Below x2.heap.size x2 x3 := hb3
  have hB3 : Below w.heap.size w x3 := hB2.trans (hc3.mono hB2.size)
  have zu3 := hB3.size
  replace PB := Lib.hid (PB.out.below hc3)
  replace RB := Lib.hid (RB.out.below hc3)
  clear PB_2_0 PB_2_1 PB_2_2 PB_2_3 lPB_2 nPB_2 mPB_2 RB_2_0 RB_2_1 RB_2_2 RB_2_3 RB_2_4 RB_2_5 RB_2_6 RB_2_7 RB_2_8 lRB_2 nRB_2 mRB_2
  clear hb3 hB2 zu2 hc2
  obtain ⟨PB_3_0, PB_3_1, PB_3_2, PB_3_3⟩ := b4 PB.out
  have lPB_3 := PB.out.lt
  have nPB_3 : x3.heap.size ≠ w.heap.size := by omega
  have mPB_3 : w.heap.size ≠ x3.heap.size := by omega
  obtain ⟨RB_3_0, RB_3_1, RB_3_2, RB_3_3, RB_3_4, RB_3_5, RB_3_6, RB_3_7, RB_3_8⟩ := b9 RB.out
  have lRB_3 := RB.out.lt
  have nRB_3 : x3.heap.size ≠ w.heap.size + 1 := by omega
  have mRB_3 : w.heap.size + 1 ≠ x3.heap.size := by omega
  go_wp2_with fail
  refine (refBoth_any nm s G D A B gn gc dn dc T r AT tn tc N 0 0 0 _ hz6 hgn hgl hdn hdl (Lib.hid (hG.out.below (by (repeat (first | (with_reducible refine Below.drew ?_) | (with_reducible refine below_drewN ?_ _) | (with_reducible refine Below.alloc ?_ (by first | omega | (simp; done) | (simp; omega) | (simp at *; omega)) _) | (with_reducible refine Below.setCell ?_ (by first | omega | (simp; done) | (simp; omega) | (simp at *; omega)) _) | (with_reducible exact Below.refl _ _) | (with_reducible assumption) | (with_reducible refine Below.trans ?_ (Below.mono (by assumption) (by first | omega | (simp; done) | (simp; omega) | (simp at *; omega))))))))) (Lib.hid (hD.out.below (by (repeat (first | (with_reducible refine Below.drew ?_) | (with_reducible refine below_drewN ?_ _) | (with_reducible refine Below.alloc ?_ (by first | omega | (simp; done) | (simp; omega) | (simp at *; omega)) _) | (with_reducible refine Below.setCell ?_ (by first | omega | (simp; done) | (simp; omega) | (simp at *; omega)) _) | (with_reducible exact Below.refl _ _) | (with_reducible assumption) | (with_reducible refine Below.trans ?_ (Below.mono (by assumption) (by first | omega | (simp; done) | (simp; omega) | (simp at *; omega))))))))) hE0 htn htl (Lib.hid (hT.out.below (by (repeat (first | (with_reducible refine Below.drew ?_) | (with_reducible refine below_drewN ?_ _) | (with_reducible refine Below.alloc ?_ (by first | omega | (simp; done) | (simp; omega) | (simp at *; omega)) _) | (with_reducible refine Below.setCell ?_ (by first | omega | (simp; done) | (simp; omega) | (simp at *; omega)) _) | (with_reducible exact Below.refl _ _) | (with_reducible assumption) | (with_reducible refine Below.trans ?_ (Below.mono (by assumption) (by first | omega | (simp; done) | (simp; omega) | (simp at *; omega))))))))) hE1 hEB).mono ?_
  rintro e x4 ⟨rfl, hb4⟩
  have hc4 : Below x3.heap.size x3 x4 := hb4
  have hB4 : Below w.heap.size w x4 := hB3.trans (hc4.mono hB3.size)
  have zu4 := hB4.size
  replace PB := Lib.hid (PB.out.below hc4)
  replace RB := Lib.hid (RB.out.below hc4)
  clear PB_3_0 PB_3_1 PB_3_2 PB_3_3 lPB_3 nPB_3 mPB_3 RB_3_0 RB_3_1 RB_3_2 RB_3_3 RB_3_4 RB_3_5 RB_3_6 RB_3_7 RB_3_8 lRB_3 nRB_3 mRB_3
  clear hb4 hB3 zu3 hc3
  obtain ⟨PB_4_0, PB_4_1, PB_4_2, PB_4_3⟩ := b4 PB.out
  have lPB_4 := PB.out.lt
  have nPB_4 : x4.heap.size ≠ w.heap.size := by omega
  have mPB_4 : w.heap.size ≠ x4.heap.size := by omega
  obtain ⟨RB_4_0, RB_4_1, RB_4_2, RB_4_3, RB_4_4, RB_4_5, RB_4_6, RB_4_7, RB_4_8⟩ := b9 RB.out
  have lRB_4 := RB.out.lt
  have nRB_4 : x4.heap.size ≠ w.heap.size + 1 := by omega
  have mRB_4 : w.heap.size + 1 ≠ x4.heap.size := by omega
  go_wp2_with fail
  refine (refSeconds_is nm s G D A B gn gc dn dc S _ hgn hdn hok (Lib.hid (hG.out.below (by (repeat (first | (with_reducible refine Below.drew ?_) | (with_reducible refine below_drewN ?_ _) | (with_reducible refine Below.alloc ?_ (by first | omega | (simp; done) | (simp; omega) | (simp at *; omega)) _) | (with_reducible refine Below.setCell ?_ (by first | omega | (simp; done) | (simp; omega) | (simp at *; omega)) _) | (with_reducible exact Below.refl _ _) | (with_reducible assumption) | (with_reducible refine Below.trans ?_ (Below.mono (by assumption) (by first | omega | (simp; done) | (simp; omega) | (simp at *; omega))))))))) (Lib.hid (hD.out.below (by (repeat (first | (with_reducible refine Below.drew ?_) | (with_reducible refine below_drewN ?_ _) | (with_reducible refine Below.alloc ?_ (by first | omega | (simp; done) | (simp; omega) | (simp at *; omega)) _) | (with_reducible refine Below.setCell ?_ (by first | omega | (simp; done) | (simp; omega) | (simp at *; omega)) _) | (with_reducible exact Below.refl _ _) | (with_reducible assumption) | (with_reducible refine Below.trans ?_ (Below.mono (by assumption) (by first | omega | (simp; done) | (simp; omega) | (simp at *; omega))))))))) hSS).mono ?_
  rintro e x5 ⟨rfl, hb5⟩
  have hc5 : Below x4.heap.size x4 x5 := hb5
  have hB5 : Below w.heap.size w x5 := hB4.trans (hc5.mono hB4.size)
  have zu5 := hB5.size
  replace PB := Lib.hid (PB.out.below hc5)
  replace RB := Lib.hid (RB.out.below hc5)
  clear PB_4_0 PB_4_1 PB_4_2 PB_4_3 lPB_4 nPB_4 mPB_4 RB_4_0 RB_4_1 RB_4_2 RB_4_3 RB_4_4 RB_4_5 RB_4_6 RB_4_7 RB_4_8 lRB_4 nRB_4 mRB_4
  clear hb5 hB4 zu4 hc4
  obtain ⟨PB_5_0, PB_5_1, PB_5_2, PB_5_3⟩ := b4 PB.out
  have lPB_5 := PB.out.lt
  have nPB_5 : x5.heap.size ≠ w.heap.size := by omega
  have mPB_5 : w.heap.size ≠ x5.heap.size := by omega
  obtain ⟨RB_5_0, RB_5_1, RB_5_2, RB_5_3, RB_5_4, RB_5_5, RB_5_6, RB_5_7, RB_5_8⟩ := b9 RB.out
  have lRB_5 := RB.out.lt
  have nRB_5 : x5.heap.size ≠ w.heap.size + 1 := by omega
  have mRB_5 : w.heap.size + 1 ≠ x5.heap.size := by omega
  go_wp2
  go_ret
  exact ⟨rfl, hB5⟩
set_option maxRecDepth 100000 in
set_option maxHeartbeats 8000000 in
theorem rt_none (nm : ByteArray) (s : Int) (G : List Ga) (D : List Le) (A B : Option Addr) (gn gc dn dc : Nat) (T : List Ox) (r : Ru) (AT : Option Addr) (tn tc : Nat) (t : Int) (sb : Bool) (N : Nat) (S : Int) (w : World) (hz : nm.size ≤ 9223372036854775807) (hgn : Hid (gn = G.length)) (hgl : gn ≤ 9223372036854775807) (hdn : Hid (dn = D.length)) (hdl : dn ≤ 9223372036854775807) (hG : Hid (SlRows gaV 2 w A G)) (hD : Hid (SlRows leV 3 w B D)) (CG : Hid (A = none → gn = 0 ∧ gc = 0)) (CD : Hid (B = none → dn = 0 ∧ dc = 0)) (htn : Hid (tn = T.length)) (htl : tn ≤ 9223372036854775807) (hT : Hid (SlRows oxV 2 w AT T)) (CT : Hid (AT = none → tn = 0 ∧ tc = 0)) (hS1 : Hid (shortB nm.size dn gn = true)) (hS : Hid (shortB nm.size dn gn = sb)) (hE0 : Hid (plnP nm s G D = (N, 0))) (hb : Hid (briefV sb 0 (secT D dn) = true)) (hF : Hid (fewB tn = true)) (hE1 : Hid (ruE T r = 0)) (hEB : Hid (firE [0, 0] = 0)) (hok : Hid (PlnOk nm s G D)) (hSS : Hid (secT D dn = S)) (h4 : ¬ 400 < S) (hd0 : Hid (dn = 0)) :
    Calls Try.prog 3 #[.agg #[.string nm, .int .i64 s, .slice A gn gc, .slice B dn dc], .agg #[.slice AT tn tc, .int .i64 r.a, .int .i64 r.b, .int .i64 r.nc, .int .i64 r.dn, .int .i64 r.br, .int .i64 r.em, .int .i64 r.pa, .int .i64 r.sc], .int .i64 t] w fun e w' => e = .returned (.bool true) ∧ Below w.heap.size w w' := by
  have hd1 : ((dn : Int) == 0) = true := by have := hd0.out; simp; omega
  have hd2 : (dn == 0) = true := by have := hd0.out; simp; omega
  have hsb := shortB_le hS1.out
  have hz6 : nm.size ≤ 1000000 := by omega
  have hg6 : gn ≤ 1000000 := by omega
  have hd6 : dn ≤ 1000000 := by omega
  have ht22 : tn ≤ 22 := fewB_le hF.out
  have ht6 : tn ≤ 1000000 := by omega
  go_enter Try.func3, Try.ntmps3
  go_wp2_with fail
  refine (exposed_any _).mono ?_
  rintro e x1 ⟨rfl, hb1⟩
  have hc1 : Below w.heap.size w x1 := (((Below.refl _ _).alloc (by first | exact Nat.le_refl _ | (simp; done) | (simp; omega)) _).alloc (by first | exact Nat.le_refl _ | (simp; done) | (simp; omega)) _).trans (hb1.mono (by first | exact Nat.le_refl _ | (simp; done) | (simp; omega)))
  have hB1 : Below w.heap.size w x1 := hc1
  have zu1 := hB1.size
  have PB : Hid (BlkF x1 w.heap.size (w.heap.size) [.string nm, .int .i64 s, .slice A gn gc, .slice B dn dc]) := Lib.hid (((BlkF.made (B := w.heap.size) w [.string nm, .int .i64 s, .slice A gn gc, .slice B dn dc] 25 (by first | exact Nat.le_refl _ | (simp; done) | (simp; omega))).below ((Below.refl _ _).alloc (Nat.le_refl _) _)).below hb1)
  have zPB1 := PB.out.lt
  have RB : Hid (BlkF x1 w.heap.size (w.heap.size + 1) [.slice AT tn tc, .int .i64 r.a, .int .i64 r.b, .int .i64 r.nc, .int .i64 r.dn, .int .i64 r.br, .int .i64 r.em, .int .i64 r.pa, .int .i64 r.sc]) := Lib.hid (by have := (BlkF.made (B := w.heap.size) (w.alloc (.cells #[.string nm, .int .i64 s, .slice A gn gc, .slice B dn dc] 25)) [.slice AT tn tc, .int .i64 r.a, .int .i64 r.b, .int .i64 r.nc, .int .i64 r.dn, .int .i64 r.br, .int .i64 r.em, .int .i64 r.pa, .int .i64 r.sc] 30 (by first | exact Nat.le_refl _ | (simp; done) | (simp; omega))).below hb1; simpa using this)
  have zRB1 := RB.out.lt
  clear hb1
  obtain ⟨PB_1_0, PB_1_1, PB_1_2, PB_1_3⟩ := b4 PB.out
  have lPB_1 := PB.out.lt
  have nPB_1 : x1.heap.size ≠ w.heap.size := by omega
  have mPB_1 : w.heap.size ≠ x1.heap.size := by omega
  obtain ⟨RB_1_0, RB_1_1, RB_1_2, RB_1_3, RB_1_4, RB_1_5, RB_1_6, RB_1_7, RB_1_8⟩ := b9 RB.out
  have lRB_1 := RB.out.lt
  have nRB_1 : x1.heap.size ≠ w.heap.size + 1 := by omega
  have mRB_1 : w.heap.size + 1 ≠ x1.heap.size := by omega
  go_wp2_with fail
  refine (Brief_is nm s G D A B gn gc dn dc sb true N 0 _ hz hgn hgl hdn hdl (Lib.hid (hG.out.below (by (repeat (first | (with_reducible refine Below.drew ?_) | (with_reducible refine below_drewN ?_ _) | (with_reducible refine Below.alloc ?_ (by first | omega | (simp; done) | (simp; omega) | (simp at *; omega)) _) | (with_reducible refine Below.setCell ?_ (by first | omega | (simp; done) | (simp; omega) | (simp at *; omega)) _) | (with_reducible exact Below.refl _ _) | (with_reducible assumption) | (with_reducible refine Below.trans ?_ (Below.mono (by assumption) (by first | omega | (simp; done) | (simp; omega) | (simp at *; omega))))))))) (Lib.hid (hD.out.below (by (repeat (first | (with_reducible refine Below.drew ?_) | (with_reducible refine below_drewN ?_ _) | (with_reducible refine Below.alloc ?_ (by first | omega | (simp; done) | (simp; omega) | (simp at *; omega)) _) | (with_reducible refine Below.setCell ?_ (by first | omega | (simp; done) | (simp; omega) | (simp at *; omega)) _) | (with_reducible exact Below.refl _ _) | (with_reducible assumption) | (with_reducible refine Below.trans ?_ (Below.mono (by assumption) (by first | omega | (simp; done) | (simp; omega) | (simp at *; omega))))))))) hS hE0 hb).mono ?_
  rintro e x2 ⟨rfl, hb2⟩
  have hc2 : Below x1.heap.size x1 x2 := hb2
  have hB2 : Below w.heap.size w x2 := hB1.trans (hc2.mono hB1.size)
  have zu2 := hB2.size
  replace PB := Lib.hid (PB.out.below hc2)
  replace RB := Lib.hid (RB.out.below hc2)
  clear PB_1_0 PB_1_1 PB_1_2 PB_1_3 lPB_1 nPB_1 mPB_1 RB_1_0 RB_1_1 RB_1_2 RB_1_3 RB_1_4 RB_1_5 RB_1_6 RB_1_7 RB_1_8 lRB_1 nRB_1 mRB_1
  clear hb2 hB1 zu1 hc1
  obtain ⟨PB_2_0, PB_2_1, PB_2_2, PB_2_3⟩ := b4 PB.out
  have lPB_2 := PB.out.lt
  have nPB_2 : x2.heap.size ≠ w.heap.size := by omega
  have mPB_2 : w.heap.size ≠ x2.heap.size := by omega
  obtain ⟨RB_2_0, RB_2_1, RB_2_2, RB_2_3, RB_2_4, RB_2_5, RB_2_6, RB_2_7, RB_2_8⟩ := b9 RB.out
  have lRB_2 := RB.out.lt
  have nRB_2 : x2.heap.size ≠ w.heap.size + 1 := by omega
  have mRB_2 : w.heap.size + 1 ≠ x2.heap.size := by omega
  go_wp2_with fail
  refine (FewT_is r AT tn tc true _ htl hF).mono ?_
  rintro e x3 ⟨rfl, hb3⟩
  have hc3 : Below x2.heap.size x2 x3 := hb3
  have hB3 : Below w.heap.size w x3 := hB2.trans (hc3.mono hB2.size)
  have zu3 := hB3.size
  replace PB := Lib.hid (PB.out.below hc3)
  replace RB := Lib.hid (RB.out.below hc3)
  clear PB_2_0 PB_2_1 PB_2_2 PB_2_3 lPB_2 nPB_2 mPB_2 RB_2_0 RB_2_1 RB_2_2 RB_2_3 RB_2_4 RB_2_5 RB_2_6 RB_2_7 RB_2_8 lRB_2 nRB_2 mRB_2
  clear hb3 hB2 zu2 hc2
  obtain ⟨PB_3_0, PB_3_1, PB_3_2, PB_3_3⟩ := b4 PB.out
  have lPB_3 := PB.out.lt
  have nPB_3 : x3.heap.size ≠ w.heap.size := by omega
  have mPB_3 : w.heap.size ≠ x3.heap.size := by omega
  obtain ⟨RB_3_0, RB_3_1, RB_3_2, RB_3_3, RB_3_4, RB_3_5, RB_3_6, RB_3_7, RB_3_8⟩ := b9 RB.out
  have lRB_3 := RB.out.lt
  have nRB_3 : x3.heap.size ≠ w.heap.size + 1 := by omega
  have mRB_3 : w.heap.size + 1 ≠ x3.heap.size := by omega
  go_wp2_with fail
  refine (refBoth_any nm s G D A B gn gc dn dc T r AT tn tc N 0 0 0 _ hz6 hgn hgl hdn hdl (Lib.hid (hG.out.below (by (repeat (first | (with_reducible refine Below.drew ?_) | (with_reducible refine below_drewN ?_ _) | (with_reducible refine Below.alloc ?_ (by first | omega | (simp; done) | (simp; omega) | (simp at *; omega)) _) | (with_reducible refine Below.setCell ?_ (by first | omega | (simp; done) | (simp; omega) | (simp at *; omega)) _) | (with_reducible exact Below.refl _ _) | (with_reducible assumption) | (with_reducible refine Below.trans ?_ (Below.mono (by assumption) (by first | omega | (simp; done) | (simp; omega) | (simp at *; omega))))))))) (Lib.hid (hD.out.below (by (repeat (first | (with_reducible refine Below.drew ?_) | (with_reducible refine below_drewN ?_ _) | (with_reducible refine Below.alloc ?_ (by first | omega | (simp; done) | (simp; omega) | (simp at *; omega)) _) | (with_reducible refine Below.setCell ?_ (by first | omega | (simp; done) | (simp; omega) | (simp at *; omega)) _) | (with_reducible exact Below.refl _ _) | (with_reducible assumption) | (with_reducible refine Below.trans ?_ (Below.mono (by assumption) (by first | omega | (simp; done) | (simp; omega) | (simp at *; omega))))))))) hE0 htn htl (Lib.hid (hT.out.below (by (repeat (first | (with_reducible refine Below.drew ?_) | (with_reducible refine below_drewN ?_ _) | (with_reducible refine Below.alloc ?_ (by first | omega | (simp; done) | (simp; omega) | (simp at *; omega)) _) | (with_reducible refine Below.setCell ?_ (by first | omega | (simp; done) | (simp; omega) | (simp at *; omega)) _) | (with_reducible exact Below.refl _ _) | (with_reducible assumption) | (with_reducible refine Below.trans ?_ (Below.mono (by assumption) (by first | omega | (simp; done) | (simp; omega) | (simp at *; omega))))))))) hE1 hEB).mono ?_
  rintro e x4 ⟨rfl, hb4⟩
  have hc4 : Below x3.heap.size x3 x4 := hb4
  have hB4 : Below w.heap.size w x4 := hB3.trans (hc4.mono hB3.size)
  have zu4 := hB4.size
  replace PB := Lib.hid (PB.out.below hc4)
  replace RB := Lib.hid (RB.out.below hc4)
  clear PB_3_0 PB_3_1 PB_3_2 PB_3_3 lPB_3 nPB_3 mPB_3 RB_3_0 RB_3_1 RB_3_2 RB_3_3 RB_3_4 RB_3_5 RB_3_6 RB_3_7 RB_3_8 lRB_3 nRB_3 mRB_3
  clear hb4 hB3 zu3 hc3
  obtain ⟨PB_4_0, PB_4_1, PB_4_2, PB_4_3⟩ := b4 PB.out
  have lPB_4 := PB.out.lt
  have nPB_4 : x4.heap.size ≠ w.heap.size := by omega
  have mPB_4 : w.heap.size ≠ x4.heap.size := by omega
  obtain ⟨RB_4_0, RB_4_1, RB_4_2, RB_4_3, RB_4_4, RB_4_5, RB_4_6, RB_4_7, RB_4_8⟩ := b9 RB.out
  have lRB_4 := RB.out.lt
  have nRB_4 : x4.heap.size ≠ w.heap.size + 1 := by omega
  have mRB_4 : w.heap.size + 1 ≠ x4.heap.size := by omega
  go_wp2_with fail
  refine (refSeconds_is nm s G D A B gn gc dn dc S _ hgn hdn hok (Lib.hid (hG.out.below (by (repeat (first | (with_reducible refine Below.drew ?_) | (with_reducible refine below_drewN ?_ _) | (with_reducible refine Below.alloc ?_ (by first | omega | (simp; done) | (simp; omega) | (simp at *; omega)) _) | (with_reducible refine Below.setCell ?_ (by first | omega | (simp; done) | (simp; omega) | (simp at *; omega)) _) | (with_reducible exact Below.refl _ _) | (with_reducible assumption) | (with_reducible refine Below.trans ?_ (Below.mono (by assumption) (by first | omega | (simp; done) | (simp; omega) | (simp at *; omega))))))))) (Lib.hid (hD.out.below (by (repeat (first | (with_reducible refine Below.drew ?_) | (with_reducible refine below_drewN ?_ _) | (with_reducible refine Below.alloc ?_ (by first | omega | (simp; done) | (simp; omega) | (simp at *; omega)) _) | (with_reducible refine Below.setCell ?_ (by first | omega | (simp; done) | (simp; omega) | (simp at *; omega)) _) | (with_reducible exact Below.refl _ _) | (with_reducible assumption) | (with_reducible refine Below.trans ?_ (Below.mono (by assumption) (by first | omega | (simp; done) | (simp; omega) | (simp at *; omega))))))))) hSS).mono ?_
  rintro e x5 ⟨rfl, hb5⟩
  have hc5 : Below x4.heap.size x4 x5 := hb5
  have hB5 : Below w.heap.size w x5 := hB4.trans (hc5.mono hB4.size)
  have zu5 := hB5.size
  replace PB := Lib.hid (PB.out.below hc5)
  replace RB := Lib.hid (RB.out.below hc5)
  clear PB_4_0 PB_4_1 PB_4_2 PB_4_3 lPB_4 nPB_4 mPB_4 RB_4_0 RB_4_1 RB_4_2 RB_4_3 RB_4_4 RB_4_5 RB_4_6 RB_4_7 RB_4_8 lRB_4 nRB_4 mRB_4
  clear hb5 hB4 zu4 hc4
  obtain ⟨PB_5_0, PB_5_1, PB_5_2, PB_5_3⟩ := b4 PB.out
  have lPB_5 := PB.out.lt
  have nPB_5 : x5.heap.size ≠ w.heap.size := by omega
  have mPB_5 : w.heap.size ≠ x5.heap.size := by omega
  obtain ⟨RB_5_0, RB_5_1, RB_5_2, RB_5_3, RB_5_4, RB_5_5, RB_5_6, RB_5_7, RB_5_8⟩ := b9 RB.out
  have lRB_5 := RB.out.lt
  have nRB_5 : x5.heap.size ≠ w.heap.size + 1 := by omega
  have mRB_5 : w.heap.size + 1 ≠ x5.heap.size := by omega
  go_wp2
  go_ret
  exact ⟨rfl, hB5⟩
set_option maxRecDepth 100000 in
set_option maxHeartbeats 8000000 in
theorem rt_out (nm : ByteArray) (s : Int) (G : List Ga) (D : List Le) (A B : Option Addr) (gn gc dn dc : Nat) (T : List Ox) (r : Ru) (AT : Option Addr) (tn tc : Nat) (t : Int) (sb : Bool) (N : Nat) (S : Int) (w : World) (hz : nm.size ≤ 9223372036854775807) (hgn : Hid (gn = G.length)) (hgl : gn ≤ 9223372036854775807) (hdn : Hid (dn = D.length)) (hdl : dn ≤ 9223372036854775807) (hG : Hid (SlRows gaV 2 w A G)) (hD : Hid (SlRows leV 3 w B D)) (CG : Hid (A = none → gn = 0 ∧ gc = 0)) (CD : Hid (B = none → dn = 0 ∧ dc = 0)) (htn : Hid (tn = T.length)) (htl : tn ≤ 9223372036854775807) (hT : Hid (SlRows oxV 2 w AT T)) (CT : Hid (AT = none → tn = 0 ∧ tc = 0)) (hS1 : Hid (shortB nm.size dn gn = true)) (hS : Hid (shortB nm.size dn gn = sb)) (hE0 : Hid (plnP nm s G D = (N, 0))) (hb : Hid (briefV sb 0 (secT D dn) = true)) (hF : Hid (fewB tn = true)) (hE1 : Hid (ruE T r = 0)) (hEB : Hid (firE [0, 0] = 0)) (hok : Hid (PlnOk nm s G D)) (hSS : Hid (secT D dn = S)) (h4 : ¬ 400 < S) (hd0 : 0 < dn) (hin : Hid (inB t 0 S = false)) :
    Calls Try.prog 3 #[.agg #[.string nm, .int .i64 s, .slice A gn gc, .slice B dn dc], .agg #[.slice AT tn tc, .int .i64 r.a, .int .i64 r.b, .int .i64 r.nc, .int .i64 r.dn, .int .i64 r.br, .int .i64 r.em, .int .i64 r.pa, .int .i64 r.sc], .int .i64 t] w fun e w' => e = .returned (.bool true) ∧ Below w.heap.size w w' := by
  have hd1 : ¬ (dn : Int) = 0 := by omega
  have hd2 : ((dn : Int) == 0) = false := by simpa using hd1
  have hd3 : (dn == 0) = false := by simp; omega
  have hsb := shortB_le hS1.out
  have hz6 : nm.size ≤ 1000000 := by omega
  have hg6 : gn ≤ 1000000 := by omega
  have hd6 : dn ≤ 1000000 := by omega
  have ht22 : tn ≤ 22 := fewB_le hF.out
  have ht6 : tn ≤ 1000000 := by omega
  go_enter Try.func3, Try.ntmps3
  go_wp2_with fail
  refine (exposed_any _).mono ?_
  rintro e x1 ⟨rfl, hb1⟩
  have hc1 : Below w.heap.size w x1 := (((Below.refl _ _).alloc (by first | exact Nat.le_refl _ | (simp; done) | (simp; omega)) _).alloc (by first | exact Nat.le_refl _ | (simp; done) | (simp; omega)) _).trans (hb1.mono (by first | exact Nat.le_refl _ | (simp; done) | (simp; omega)))
  have hB1 : Below w.heap.size w x1 := hc1
  have zu1 := hB1.size
  have PB : Hid (BlkF x1 w.heap.size (w.heap.size) [.string nm, .int .i64 s, .slice A gn gc, .slice B dn dc]) := Lib.hid (((BlkF.made (B := w.heap.size) w [.string nm, .int .i64 s, .slice A gn gc, .slice B dn dc] 25 (by first | exact Nat.le_refl _ | (simp; done) | (simp; omega))).below ((Below.refl _ _).alloc (Nat.le_refl _) _)).below hb1)
  have zPB1 := PB.out.lt
  have RB : Hid (BlkF x1 w.heap.size (w.heap.size + 1) [.slice AT tn tc, .int .i64 r.a, .int .i64 r.b, .int .i64 r.nc, .int .i64 r.dn, .int .i64 r.br, .int .i64 r.em, .int .i64 r.pa, .int .i64 r.sc]) := Lib.hid (by have := (BlkF.made (B := w.heap.size) (w.alloc (.cells #[.string nm, .int .i64 s, .slice A gn gc, .slice B dn dc] 25)) [.slice AT tn tc, .int .i64 r.a, .int .i64 r.b, .int .i64 r.nc, .int .i64 r.dn, .int .i64 r.br, .int .i64 r.em, .int .i64 r.pa, .int .i64 r.sc] 30 (by first | exact Nat.le_refl _ | (simp; done) | (simp; omega))).below hb1; simpa using this)
  have zRB1 := RB.out.lt
  clear hb1
  obtain ⟨PB_1_0, PB_1_1, PB_1_2, PB_1_3⟩ := b4 PB.out
  have lPB_1 := PB.out.lt
  have nPB_1 : x1.heap.size ≠ w.heap.size := by omega
  have mPB_1 : w.heap.size ≠ x1.heap.size := by omega
  obtain ⟨RB_1_0, RB_1_1, RB_1_2, RB_1_3, RB_1_4, RB_1_5, RB_1_6, RB_1_7, RB_1_8⟩ := b9 RB.out
  have lRB_1 := RB.out.lt
  have nRB_1 : x1.heap.size ≠ w.heap.size + 1 := by omega
  have mRB_1 : w.heap.size + 1 ≠ x1.heap.size := by omega
  go_wp2_with fail
  refine (Brief_is nm s G D A B gn gc dn dc sb true N 0 _ hz hgn hgl hdn hdl (Lib.hid (hG.out.below (by (repeat (first | (with_reducible refine Below.drew ?_) | (with_reducible refine below_drewN ?_ _) | (with_reducible refine Below.alloc ?_ (by first | omega | (simp; done) | (simp; omega) | (simp at *; omega)) _) | (with_reducible refine Below.setCell ?_ (by first | omega | (simp; done) | (simp; omega) | (simp at *; omega)) _) | (with_reducible exact Below.refl _ _) | (with_reducible assumption) | (with_reducible refine Below.trans ?_ (Below.mono (by assumption) (by first | omega | (simp; done) | (simp; omega) | (simp at *; omega))))))))) (Lib.hid (hD.out.below (by (repeat (first | (with_reducible refine Below.drew ?_) | (with_reducible refine below_drewN ?_ _) | (with_reducible refine Below.alloc ?_ (by first | omega | (simp; done) | (simp; omega) | (simp at *; omega)) _) | (with_reducible refine Below.setCell ?_ (by first | omega | (simp; done) | (simp; omega) | (simp at *; omega)) _) | (with_reducible exact Below.refl _ _) | (with_reducible assumption) | (with_reducible refine Below.trans ?_ (Below.mono (by assumption) (by first | omega | (simp; done) | (simp; omega) | (simp at *; omega))))))))) hS hE0 hb).mono ?_
  rintro e x2 ⟨rfl, hb2⟩
  have hc2 : Below x1.heap.size x1 x2 := hb2
  have hB2 : Below w.heap.size w x2 := hB1.trans (hc2.mono hB1.size)
  have zu2 := hB2.size
  replace PB := Lib.hid (PB.out.below hc2)
  replace RB := Lib.hid (RB.out.below hc2)
  clear PB_1_0 PB_1_1 PB_1_2 PB_1_3 lPB_1 nPB_1 mPB_1 RB_1_0 RB_1_1 RB_1_2 RB_1_3 RB_1_4 RB_1_5 RB_1_6 RB_1_7 RB_1_8 lRB_1 nRB_1 mRB_1
  clear hb2 hB1 zu1 hc1
  obtain ⟨PB_2_0, PB_2_1, PB_2_2, PB_2_3⟩ := b4 PB.out
  have lPB_2 := PB.out.lt
  have nPB_2 : x2.heap.size ≠ w.heap.size := by omega
  have mPB_2 : w.heap.size ≠ x2.heap.size := by omega
  obtain ⟨RB_2_0, RB_2_1, RB_2_2, RB_2_3, RB_2_4, RB_2_5, RB_2_6, RB_2_7, RB_2_8⟩ := b9 RB.out
  have lRB_2 := RB.out.lt
  have nRB_2 : x2.heap.size ≠ w.heap.size + 1 := by omega
  have mRB_2 : w.heap.size + 1 ≠ x2.heap.size := by omega
  go_wp2_with fail
  refine (FewT_is r AT tn tc true _ htl hF).mono ?_
  rintro e x3 ⟨rfl, hb3⟩
  have hc3 : Below x2.heap.size x2 x3 := hb3
  have hB3 : Below w.heap.size w x3 := hB2.trans (hc3.mono hB2.size)
  have zu3 := hB3.size
  replace PB := Lib.hid (PB.out.below hc3)
  replace RB := Lib.hid (RB.out.below hc3)
  clear PB_2_0 PB_2_1 PB_2_2 PB_2_3 lPB_2 nPB_2 mPB_2 RB_2_0 RB_2_1 RB_2_2 RB_2_3 RB_2_4 RB_2_5 RB_2_6 RB_2_7 RB_2_8 lRB_2 nRB_2 mRB_2
  clear hb3 hB2 zu2 hc2
  obtain ⟨PB_3_0, PB_3_1, PB_3_2, PB_3_3⟩ := b4 PB.out
  have lPB_3 := PB.out.lt
  have nPB_3 : x3.heap.size ≠ w.heap.size := by omega
  have mPB_3 : w.heap.size ≠ x3.heap.size := by omega
  obtain ⟨RB_3_0, RB_3_1, RB_3_2, RB_3_3, RB_3_4, RB_3_5, RB_3_6, RB_3_7, RB_3_8⟩ := b9 RB.out
  have lRB_3 := RB.out.lt
  have nRB_3 : x3.heap.size ≠ w.heap.size + 1 := by omega
  have mRB_3 : w.heap.size + 1 ≠ x3.heap.size := by omega
  go_wp2_with fail
  refine (refBoth_any nm s G D A B gn gc dn dc T r AT tn tc N 0 0 0 _ hz6 hgn hgl hdn hdl (Lib.hid (hG.out.below (by (repeat (first | (with_reducible refine Below.drew ?_) | (with_reducible refine below_drewN ?_ _) | (with_reducible refine Below.alloc ?_ (by first | omega | (simp; done) | (simp; omega) | (simp at *; omega)) _) | (with_reducible refine Below.setCell ?_ (by first | omega | (simp; done) | (simp; omega) | (simp at *; omega)) _) | (with_reducible exact Below.refl _ _) | (with_reducible assumption) | (with_reducible refine Below.trans ?_ (Below.mono (by assumption) (by first | omega | (simp; done) | (simp; omega) | (simp at *; omega))))))))) (Lib.hid (hD.out.below (by (repeat (first | (with_reducible refine Below.drew ?_) | (with_reducible refine below_drewN ?_ _) | (with_reducible refine Below.alloc ?_ (by first | omega | (simp; done) | (simp; omega) | (simp at *; omega)) _) | (with_reducible refine Below.setCell ?_ (by first | omega | (simp; done) | (simp; omega) | (simp at *; omega)) _) | (with_reducible exact Below.refl _ _) | (with_reducible assumption) | (with_reducible refine Below.trans ?_ (Below.mono (by assumption) (by first | omega | (simp; done) | (simp; omega) | (simp at *; omega))))))))) hE0 htn htl (Lib.hid (hT.out.below (by (repeat (first | (with_reducible refine Below.drew ?_) | (with_reducible refine below_drewN ?_ _) | (with_reducible refine Below.alloc ?_ (by first | omega | (simp; done) | (simp; omega) | (simp at *; omega)) _) | (with_reducible refine Below.setCell ?_ (by first | omega | (simp; done) | (simp; omega) | (simp at *; omega)) _) | (with_reducible exact Below.refl _ _) | (with_reducible assumption) | (with_reducible refine Below.trans ?_ (Below.mono (by assumption) (by first | omega | (simp; done) | (simp; omega) | (simp at *; omega))))))))) hE1 hEB).mono ?_
  rintro e x4 ⟨rfl, hb4⟩
  have hc4 : Below x3.heap.size x3 x4 := hb4
  have hB4 : Below w.heap.size w x4 := hB3.trans (hc4.mono hB3.size)
  have zu4 := hB4.size
  replace PB := Lib.hid (PB.out.below hc4)
  replace RB := Lib.hid (RB.out.below hc4)
  clear PB_3_0 PB_3_1 PB_3_2 PB_3_3 lPB_3 nPB_3 mPB_3 RB_3_0 RB_3_1 RB_3_2 RB_3_3 RB_3_4 RB_3_5 RB_3_6 RB_3_7 RB_3_8 lRB_3 nRB_3 mRB_3
  clear hb4 hB3 zu3 hc3
  obtain ⟨PB_4_0, PB_4_1, PB_4_2, PB_4_3⟩ := b4 PB.out
  have lPB_4 := PB.out.lt
  have nPB_4 : x4.heap.size ≠ w.heap.size := by omega
  have mPB_4 : w.heap.size ≠ x4.heap.size := by omega
  obtain ⟨RB_4_0, RB_4_1, RB_4_2, RB_4_3, RB_4_4, RB_4_5, RB_4_6, RB_4_7, RB_4_8⟩ := b9 RB.out
  have lRB_4 := RB.out.lt
  have nRB_4 : x4.heap.size ≠ w.heap.size + 1 := by omega
  have mRB_4 : w.heap.size + 1 ≠ x4.heap.size := by omega
  go_wp2_with fail
  refine (refSeconds_is nm s G D A B gn gc dn dc S _ hgn hdn hok (Lib.hid (hG.out.below (by (repeat (first | (with_reducible refine Below.drew ?_) | (with_reducible refine below_drewN ?_ _) | (with_reducible refine Below.alloc ?_ (by first | omega | (simp; done) | (simp; omega) | (simp at *; omega)) _) | (with_reducible refine Below.setCell ?_ (by first | omega | (simp; done) | (simp; omega) | (simp at *; omega)) _) | (with_reducible exact Below.refl _ _) | (with_reducible assumption) | (with_reducible refine Below.trans ?_ (Below.mono (by assumption) (by first | omega | (simp; done) | (simp; omega) | (simp at *; omega))))))))) (Lib.hid (hD.out.below (by (repeat (first | (with_reducible refine Below.drew ?_) | (with_reducible refine below_drewN ?_ _) | (with_reducible refine Below.alloc ?_ (by first | omega | (simp; done) | (simp; omega) | (simp at *; omega)) _) | (with_reducible refine Below.setCell ?_ (by first | omega | (simp; done) | (simp; omega) | (simp at *; omega)) _) | (with_reducible exact Below.refl _ _) | (with_reducible assumption) | (with_reducible refine Below.trans ?_ (Below.mono (by assumption) (by first | omega | (simp; done) | (simp; omega) | (simp at *; omega))))))))) hSS).mono ?_
  rintro e x5 ⟨rfl, hb5⟩
  have hc5 : Below x4.heap.size x4 x5 := hb5
  have hB5 : Below w.heap.size w x5 := hB4.trans (hc5.mono hB4.size)
  have zu5 := hB5.size
  replace PB := Lib.hid (PB.out.below hc5)
  replace RB := Lib.hid (RB.out.below hc5)
  clear PB_4_0 PB_4_1 PB_4_2 PB_4_3 lPB_4 nPB_4 mPB_4 RB_4_0 RB_4_1 RB_4_2 RB_4_3 RB_4_4 RB_4_5 RB_4_6 RB_4_7 RB_4_8 lRB_4 nRB_4 mRB_4
  clear hb5 hB4 zu4 hc4
  obtain ⟨PB_5_0, PB_5_1, PB_5_2, PB_5_3⟩ := b4 PB.out
  have lPB_5 := PB.out.lt
  have nPB_5 : x5.heap.size ≠ w.heap.size := by omega
  have mPB_5 : w.heap.size ≠ x5.heap.size := by omega
  obtain ⟨RB_5_0, RB_5_1, RB_5_2, RB_5_3, RB_5_4, RB_5_5, RB_5_6, RB_5_7, RB_5_8⟩ := b9 RB.out
  have lRB_5 := RB.out.lt
  have nRB_5 : x5.heap.size ≠ w.heap.size + 1 := by omega
  have mRB_5 : w.heap.size + 1 ≠ x5.heap.size := by omega
  go_wp2_with fail
  refine (refSeconds_is nm s G D A B gn gc dn dc S _ hgn hdn hok (Lib.hid (hG.out.below (by (repeat (first | (with_reducible refine Below.drew ?_) | (with_reducible refine below_drewN ?_ _) | (with_reducible refine Below.alloc ?_ (by first | omega | (simp; done) | (simp; omega) | (simp at *; omega)) _) | (with_reducible refine Below.setCell ?_ (by first | omega | (simp; done) | (simp; omega) | (simp at *; omega)) _) | (with_reducible exact Below.refl _ _) | (with_reducible assumption) | (with_reducible refine Below.trans ?_ (Below.mono (by assumption) (by first | omega | (simp; done) | (simp; omega) | (simp at *; omega))))))))) (Lib.hid (hD.out.below (by (repeat (first | (with_reducible refine Below.drew ?_) | (with_reducible refine below_drewN ?_ _) | (with_reducible refine Below.alloc ?_ (by first | omega | (simp; done) | (simp; omega) | (simp at *; omega)) _) | (with_reducible refine Below.setCell ?_ (by first | omega | (simp; done) | (simp; omega) | (simp at *; omega)) _) | (with_reducible exact Below.refl _ _) | (with_reducible assumption) | (with_reducible refine Below.trans ?_ (Below.mono (by assumption) (by first | omega | (simp; done) | (simp; omega) | (simp at *; omega))))))))) hSS).mono ?_
  rintro e x6 ⟨rfl, hb6⟩
  have hc6 : Below x5.heap.size x5 x6 := hb6
  have hB6 : Below w.heap.size w x6 := hB5.trans (hc6.mono hB5.size)
  have zu6 := hB6.size
  replace PB := Lib.hid (PB.out.below hc6)
  replace RB := Lib.hid (RB.out.below hc6)
  clear PB_5_0 PB_5_1 PB_5_2 PB_5_3 lPB_5 nPB_5 mPB_5 RB_5_0 RB_5_1 RB_5_2 RB_5_3 RB_5_4 RB_5_5 RB_5_6 RB_5_7 RB_5_8 lRB_5 nRB_5 mRB_5
  clear hb6 hB5 zu5 hc5
  obtain ⟨PB_6_0, PB_6_1, PB_6_2, PB_6_3⟩ := b4 PB.out
  have lPB_6 := PB.out.lt
  have nPB_6 : x6.heap.size ≠ w.heap.size := by omega
  have mPB_6 : w.heap.size ≠ x6.heap.size := by omega
  obtain ⟨RB_6_0, RB_6_1, RB_6_2, RB_6_3, RB_6_4, RB_6_5, RB_6_6, RB_6_7, RB_6_8⟩ := b9 RB.out
  have lRB_6 := RB.out.lt
  have nRB_6 : x6.heap.size ≠ w.heap.size + 1 := by omega
  have mRB_6 : w.heap.size + 1 ≠ x6.heap.size := by omega
  go_wp2_with fail
  refine (wB4 t 0 S false _ hin).mono ?_
  rintro e x7 ⟨rfl, hb7⟩
  have hc7 : Below x6.heap.size x6 x7 := hb7
  have hB7 : Below w.heap.size w x7 := hB6.trans (hc7.mono hB6.size)
  have zu7 := hB7.size
  replace PB := Lib.hid (PB.out.below hc7)
  replace RB := Lib.hid (RB.out.below hc7)
  clear PB_6_0 PB_6_1 PB_6_2 PB_6_3 lPB_6 nPB_6 mPB_6 RB_6_0 RB_6_1 RB_6_2 RB_6_3 RB_6_4 RB_6_5 RB_6_6 RB_6_7 RB_6_8 lRB_6 nRB_6 mRB_6
  clear hb7 hB6 zu6 hc6
  obtain ⟨PB_7_0, PB_7_1, PB_7_2, PB_7_3⟩ := b4 PB.out
  have lPB_7 := PB.out.lt
  have nPB_7 : x7.heap.size ≠ w.heap.size := by omega
  have mPB_7 : w.heap.size ≠ x7.heap.size := by omega
  obtain ⟨RB_7_0, RB_7_1, RB_7_2, RB_7_3, RB_7_4, RB_7_5, RB_7_6, RB_7_7, RB_7_8⟩ := b9 RB.out
  have lRB_7 := RB.out.lt
  have nRB_7 : x7.heap.size ≠ w.heap.size + 1 := by omega
  have mRB_7 : w.heap.size + 1 ≠ x7.heap.size := by omega
  go_wp2
  go_ret
  exact ⟨rfl, hB7⟩
set_option maxRecDepth 100000 in
set_option maxHeartbeats 8000000 in
theorem rt_form (nm : ByteArray) (s : Int) (G : List Ga) (D : List Le) (A B : Option Addr) (gn gc dn dc : Nat) (T : List Ox) (r : Ru) (AT : Option Addr) (tn tc : Nat) (t : Int) (sb : Bool) (N : Nat) (S : Int) (gF : Nat → Nat) (vF sF : Nat → Int) (NN gk : Nat) (l9 : List (Int × Int)) (U9 : List Int) (a9 z9 u9 n9 d9 : Int) (kk : Nat) (xa ya xb yb num den lo hi : Int) (w : World) (hz : nm.size ≤ 9223372036854775807) (hgn : Hid (gn = G.length)) (hgl : gn ≤ 9223372036854775807) (hdn : Hid (dn = D.length)) (hdl : dn ≤ 9223372036854775807) (hG : Hid (SlRows gaV 2 w A G)) (hD : Hid (SlRows leV 3 w B D)) (CG : Hid (A = none → gn = 0 ∧ gc = 0)) (CD : Hid (B = none → dn = 0 ∧ dc = 0)) (htn : Hid (tn = T.length)) (htl : tn ≤ 9223372036854775807) (hT : Hid (SlRows oxV 2 w AT T)) (CT : Hid (AT = none → tn = 0 ∧ tc = 0)) (hS1 : Hid (shortB nm.size dn gn = true)) (hS : Hid (shortB nm.size dn gn = sb)) (hE0 : Hid (plnP nm s G D = (N, 0))) (hb : Hid (briefV sb 0 (secT D dn) = true)) (hF : Hid (fewB tn = true)) (hE1 : Hid (ruE T r = 0)) (hEB : Hid (firE [0, 0] = 0)) (hok : Hid (PlnOk nm s G D)) (hSS : Hid (secT D dn = S)) (hS4 : Hid (S ≤ 400)) (hd0 : 0 < dn) (hin : Hid (inB t 0 S = true)) (hG0 : 0 < G.length) (hD0 : 0 < D.length) (hg8 : gn ≤ 8) (hE : Hid (firE [0, 0, if 20000 < secT D dn then (8 : Int) else 0] = 0)) (hF9 : Hid (∀ i : Nat, gF i = ndG s G D (0 + (i : Int)) ∧ vF i = ndV r s G D (0 + (i : Int)) ∧ sF i = 0 + (i : Int))) (hNN : Hid (ndN D 0 = NN)) (hl9 : Hid (rvG rvS gF vF sF gn NN = l9)) (hll : Hid (l9.length = gn)) (hgk : gk < gn) (hk : kk < dn) (hg : Hid ((D[kk]'(by have := hdn.out; omega)).g = (gk : Int))) (hEb : Hid (rngE r.br 1 100000 = 0)) (hF2 : Hid ((if 20000 < secT D dn then (8 : Int) else 0) = 0)) (hF3 : Hid (rngE t 0 (secT D dn) = 0)) (hE4 : Hid (firE [0, 0, 0, 0] = 0)) (hu9 : Hid (conT r.br t (legK s G D) gn (List.range dn) = U9)) (hun : Hid (gn = U9.length)) (hub : Hid (∀ j (hj : j < U9.length), 0 ≤ U9[j] ∧ U9[j] ≤ 1000000000000000)) (hwg : Hid (inB (gk : Int) 0 ((gn : Int) - 1) = true)) (hE2s : Hid (rngE s 400 1100 = 0)) (hE3d : Hid (rngE hi 0 30000 = 0)) (hE3z : Hid (firE [0, 0, 0] = 0)) (hn9 : Hid (escV r s hi = n9)) (hwn : Hid (inB n9 0 1000000000000000 = true)) (hgl9 : gk < l9.length) (hgu9 : gk < U9.length) (ha9 : Hid ((l9.getD gk (0, -1)).1 = a9)) (hz9 : Hid ((l9.getD gk (0, -1)).2 = z9)) (hu8 : Hid (U9[gk] = u9)) (hab : Hid (0 ≤ a9 ∧ a9 ≤ 4000000000000000000)) (hub9 : Hid (0 ≤ u9 ∧ u9 ≤ 1000000000000000)) (hd9 : Hid (a9 - u9 = d9)) (hdn8 : Hid (n9 ≤ d9)) (ht0 : 0 ≤ t) (ht1 : t ≤ secT D dn) (hk2 : Hid (∀ j, j < kk → secT D (j + 1) < t)) (hk3 : Hid (t ≤ secT D (kk + 1))) (hxa : Hid (((ptL D (dn + 1)).getD kk default).s = xa)) (hya : Hid (((ptL D (dn + 1)).getD kk default).d = ya)) (hxb : Hid (((ptL D (dn + 1)).getD (kk + 1) default).s = xb)) (hyb : Hid (((ptL D (dn + 1)).getD (kk + 1) default).d = yb)) (a0 : 0 ≤ xa) (a1 : xa ≤ t) (a2 : t ≤ xb) (a3 : xb ≤ 1000000) (ax : xa < xb) (e0 : 0 ≤ ya) (e1 : ya ≤ 30000) (f0 : 0 ≤ yb) (f1 : yb ≤ 30000) (hnum : Hid (ya * (xb - t) + yb * (t - xa) = num)) (hden : Hid (xb - xa = den)) (hlo : Hid (num / den = lo)) (hhi : Hid (upE num den = hi)) (hn0 : 0 ≤ num) (hn1 : num ≤ 60000000000) (hwh : Hid (decide (num % den = 0) = false)) :
    Calls Try.prog 3 #[.agg #[.string nm, .int .i64 s, .slice A gn gc, .slice B dn dc], .agg #[.slice AT tn tc, .int .i64 r.a, .int .i64 r.b, .int .i64 r.nc, .int .i64 r.dn, .int .i64 r.br, .int .i64 r.em, .int .i64 r.pa, .int .i64 r.sc], .int .i64 t] w fun e w' => e = .returned (.bool true) ∧ Below w.heap.size w w' := by
  have hd1 : ¬ (dn : Int) = 0 := by omega
  have hd2 : ((dn : Int) == 0) = false := by simpa using hd1
  have hd3 : (dn == 0) = false := by simp; omega
  have h4 : ¬ 400 < S := by have := hS4.out; omega
  have wg1 : IntKind.i64.wrap ((gn : Int) - 1) = (gn : Int) - 1 := IntWalk.i64_in _ (by omega)
  have wau : IntKind.i64.wrap (a9 - u9) = d9 := by rw [IntWalk.i64_in _ (by have := hab.out; have := hub9.out; omega)]; exact hd9.out
  have hdn9 : ¬ d9 < n9 := by have := hdn8.out; omega
  have q0 : ¬ (gk : Int) < 0 := by omega
  have q1 : (gk : Int) < (gn : Int) := by omega
  have hsb := shortB_le hS1.out
  have hz6 : nm.size ≤ 1000000 := by omega
  have hg6 : gn ≤ 1000000 := by omega
  have hd6 : dn ≤ 1000000 := by omega
  have ht22 : tn ≤ 22 := fewB_le hF.out
  have ht6 : tn ≤ 1000000 := by omega
  go_enter Try.func3, Try.ntmps3
  go_wp2_with fail
  refine (exposed_any _).mono ?_
  rintro e x1 ⟨rfl, hb1⟩
  have hc1 : Below w.heap.size w x1 := (((Below.refl _ _).alloc (by first | exact Nat.le_refl _ | (simp; done) | (simp; omega)) _).alloc (by first | exact Nat.le_refl _ | (simp; done) | (simp; omega)) _).trans (hb1.mono (by first | exact Nat.le_refl _ | (simp; done) | (simp; omega)))
  have hB1 : Below w.heap.size w x1 := hc1
  have zu1 := hB1.size
  have PB : Hid (BlkF x1 w.heap.size (w.heap.size) [.string nm, .int .i64 s, .slice A gn gc, .slice B dn dc]) := Lib.hid (((BlkF.made (B := w.heap.size) w [.string nm, .int .i64 s, .slice A gn gc, .slice B dn dc] 25 (by first | exact Nat.le_refl _ | (simp; done) | (simp; omega))).below ((Below.refl _ _).alloc (Nat.le_refl _) _)).below hb1)
  have zPB1 := PB.out.lt
  have RB : Hid (BlkF x1 w.heap.size (w.heap.size + 1) [.slice AT tn tc, .int .i64 r.a, .int .i64 r.b, .int .i64 r.nc, .int .i64 r.dn, .int .i64 r.br, .int .i64 r.em, .int .i64 r.pa, .int .i64 r.sc]) := Lib.hid (by have := (BlkF.made (B := w.heap.size) (w.alloc (.cells #[.string nm, .int .i64 s, .slice A gn gc, .slice B dn dc] 25)) [.slice AT tn tc, .int .i64 r.a, .int .i64 r.b, .int .i64 r.nc, .int .i64 r.dn, .int .i64 r.br, .int .i64 r.em, .int .i64 r.pa, .int .i64 r.sc] 30 (by first | exact Nat.le_refl _ | (simp; done) | (simp; omega))).below hb1; simpa using this)
  have zRB1 := RB.out.lt
  clear hb1
  obtain ⟨PB_1_0, PB_1_1, PB_1_2, PB_1_3⟩ := b4 PB.out
  have lPB_1 := PB.out.lt
  have nPB_1 : x1.heap.size ≠ w.heap.size := by omega
  have mPB_1 : w.heap.size ≠ x1.heap.size := by omega
  obtain ⟨RB_1_0, RB_1_1, RB_1_2, RB_1_3, RB_1_4, RB_1_5, RB_1_6, RB_1_7, RB_1_8⟩ := b9 RB.out
  have lRB_1 := RB.out.lt
  have nRB_1 : x1.heap.size ≠ w.heap.size + 1 := by omega
  have mRB_1 : w.heap.size + 1 ≠ x1.heap.size := by omega
  go_wp2_with fail
  refine (Brief_is nm s G D A B gn gc dn dc sb true N 0 _ hz hgn hgl hdn hdl (Lib.hid (hG.out.below (by (repeat (first | (with_reducible refine Below.drew ?_) | (with_reducible refine below_drewN ?_ _) | (with_reducible refine Below.alloc ?_ (by first | omega | (simp; done) | (simp; omega) | (simp at *; omega)) _) | (with_reducible refine Below.setCell ?_ (by first | omega | (simp; done) | (simp; omega) | (simp at *; omega)) _) | (with_reducible exact Below.refl _ _) | (with_reducible assumption) | (with_reducible refine Below.trans ?_ (Below.mono (by assumption) (by first | omega | (simp; done) | (simp; omega) | (simp at *; omega))))))))) (Lib.hid (hD.out.below (by (repeat (first | (with_reducible refine Below.drew ?_) | (with_reducible refine below_drewN ?_ _) | (with_reducible refine Below.alloc ?_ (by first | omega | (simp; done) | (simp; omega) | (simp at *; omega)) _) | (with_reducible refine Below.setCell ?_ (by first | omega | (simp; done) | (simp; omega) | (simp at *; omega)) _) | (with_reducible exact Below.refl _ _) | (with_reducible assumption) | (with_reducible refine Below.trans ?_ (Below.mono (by assumption) (by first | omega | (simp; done) | (simp; omega) | (simp at *; omega))))))))) hS hE0 hb).mono ?_
  rintro e x2 ⟨rfl, hb2⟩
  have hc2 : Below x1.heap.size x1 x2 := hb2
  have hB2 : Below w.heap.size w x2 := hB1.trans (hc2.mono hB1.size)
  have zu2 := hB2.size
  replace PB := Lib.hid (PB.out.below hc2)
  replace RB := Lib.hid (RB.out.below hc2)
  clear PB_1_0 PB_1_1 PB_1_2 PB_1_3 lPB_1 nPB_1 mPB_1 RB_1_0 RB_1_1 RB_1_2 RB_1_3 RB_1_4 RB_1_5 RB_1_6 RB_1_7 RB_1_8 lRB_1 nRB_1 mRB_1
  clear hb2 hB1 zu1 hc1
  obtain ⟨PB_2_0, PB_2_1, PB_2_2, PB_2_3⟩ := b4 PB.out
  have lPB_2 := PB.out.lt
  have nPB_2 : x2.heap.size ≠ w.heap.size := by omega
  have mPB_2 : w.heap.size ≠ x2.heap.size := by omega
  obtain ⟨RB_2_0, RB_2_1, RB_2_2, RB_2_3, RB_2_4, RB_2_5, RB_2_6, RB_2_7, RB_2_8⟩ := b9 RB.out
  have lRB_2 := RB.out.lt
  have nRB_2 : x2.heap.size ≠ w.heap.size + 1 := by omega
  have mRB_2 : w.heap.size + 1 ≠ x2.heap.size := by omega
  go_wp2_with fail
  refine (FewT_is r AT tn tc true _ htl hF).mono ?_
  rintro e x3 ⟨rfl, hb3⟩
  have hc3 : Below x2.heap.size x2 x3 := hb3
  have hB3 : Below w.heap.size w x3 := hB2.trans (hc3.mono hB2.size)
  have zu3 := hB3.size
  replace PB := Lib.hid (PB.out.below hc3)
  replace RB := Lib.hid (RB.out.below hc3)
  clear PB_2_0 PB_2_1 PB_2_2 PB_2_3 lPB_2 nPB_2 mPB_2 RB_2_0 RB_2_1 RB_2_2 RB_2_3 RB_2_4 RB_2_5 RB_2_6 RB_2_7 RB_2_8 lRB_2 nRB_2 mRB_2
  clear hb3 hB2 zu2 hc2
  obtain ⟨PB_3_0, PB_3_1, PB_3_2, PB_3_3⟩ := b4 PB.out
  have lPB_3 := PB.out.lt
  have nPB_3 : x3.heap.size ≠ w.heap.size := by omega
  have mPB_3 : w.heap.size ≠ x3.heap.size := by omega
  obtain ⟨RB_3_0, RB_3_1, RB_3_2, RB_3_3, RB_3_4, RB_3_5, RB_3_6, RB_3_7, RB_3_8⟩ := b9 RB.out
  have lRB_3 := RB.out.lt
  have nRB_3 : x3.heap.size ≠ w.heap.size + 1 := by omega
  have mRB_3 : w.heap.size + 1 ≠ x3.heap.size := by omega
  go_wp2_with fail
  refine (refBoth_any nm s G D A B gn gc dn dc T r AT tn tc N 0 0 0 _ hz6 hgn hgl hdn hdl (Lib.hid (hG.out.below (by (repeat (first | (with_reducible refine Below.drew ?_) | (with_reducible refine below_drewN ?_ _) | (with_reducible refine Below.alloc ?_ (by first | omega | (simp; done) | (simp; omega) | (simp at *; omega)) _) | (with_reducible refine Below.setCell ?_ (by first | omega | (simp; done) | (simp; omega) | (simp at *; omega)) _) | (with_reducible exact Below.refl _ _) | (with_reducible assumption) | (with_reducible refine Below.trans ?_ (Below.mono (by assumption) (by first | omega | (simp; done) | (simp; omega) | (simp at *; omega))))))))) (Lib.hid (hD.out.below (by (repeat (first | (with_reducible refine Below.drew ?_) | (with_reducible refine below_drewN ?_ _) | (with_reducible refine Below.alloc ?_ (by first | omega | (simp; done) | (simp; omega) | (simp at *; omega)) _) | (with_reducible refine Below.setCell ?_ (by first | omega | (simp; done) | (simp; omega) | (simp at *; omega)) _) | (with_reducible exact Below.refl _ _) | (with_reducible assumption) | (with_reducible refine Below.trans ?_ (Below.mono (by assumption) (by first | omega | (simp; done) | (simp; omega) | (simp at *; omega))))))))) hE0 htn htl (Lib.hid (hT.out.below (by (repeat (first | (with_reducible refine Below.drew ?_) | (with_reducible refine below_drewN ?_ _) | (with_reducible refine Below.alloc ?_ (by first | omega | (simp; done) | (simp; omega) | (simp at *; omega)) _) | (with_reducible refine Below.setCell ?_ (by first | omega | (simp; done) | (simp; omega) | (simp at *; omega)) _) | (with_reducible exact Below.refl _ _) | (with_reducible assumption) | (with_reducible refine Below.trans ?_ (Below.mono (by assumption) (by first | omega | (simp; done) | (simp; omega) | (simp at *; omega))))))))) hE1 hEB).mono ?_
  rintro e x4 ⟨rfl, hb4⟩
  have hc4 : Below x3.heap.size x3 x4 := hb4
  have hB4 : Below w.heap.size w x4 := hB3.trans (hc4.mono hB3.size)
  have zu4 := hB4.size
  replace PB := Lib.hid (PB.out.below hc4)
  replace RB := Lib.hid (RB.out.below hc4)
  clear PB_3_0 PB_3_1 PB_3_2 PB_3_3 lPB_3 nPB_3 mPB_3 RB_3_0 RB_3_1 RB_3_2 RB_3_3 RB_3_4 RB_3_5 RB_3_6 RB_3_7 RB_3_8 lRB_3 nRB_3 mRB_3
  clear hb4 hB3 zu3 hc3
  obtain ⟨PB_4_0, PB_4_1, PB_4_2, PB_4_3⟩ := b4 PB.out
  have lPB_4 := PB.out.lt
  have nPB_4 : x4.heap.size ≠ w.heap.size := by omega
  have mPB_4 : w.heap.size ≠ x4.heap.size := by omega
  obtain ⟨RB_4_0, RB_4_1, RB_4_2, RB_4_3, RB_4_4, RB_4_5, RB_4_6, RB_4_7, RB_4_8⟩ := b9 RB.out
  have lRB_4 := RB.out.lt
  have nRB_4 : x4.heap.size ≠ w.heap.size + 1 := by omega
  have mRB_4 : w.heap.size + 1 ≠ x4.heap.size := by omega
  go_wp2_with fail
  refine (refSeconds_is nm s G D A B gn gc dn dc S _ hgn hdn hok (Lib.hid (hG.out.below (by (repeat (first | (with_reducible refine Below.drew ?_) | (with_reducible refine below_drewN ?_ _) | (with_reducible refine Below.alloc ?_ (by first | omega | (simp; done) | (simp; omega) | (simp at *; omega)) _) | (with_reducible refine Below.setCell ?_ (by first | omega | (simp; done) | (simp; omega) | (simp at *; omega)) _) | (with_reducible exact Below.refl _ _) | (with_reducible assumption) | (with_reducible refine Below.trans ?_ (Below.mono (by assumption) (by first | omega | (simp; done) | (simp; omega) | (simp at *; omega))))))))) (Lib.hid (hD.out.below (by (repeat (first | (with_reducible refine Below.drew ?_) | (with_reducible refine below_drewN ?_ _) | (with_reducible refine Below.alloc ?_ (by first | omega | (simp; done) | (simp; omega) | (simp at *; omega)) _) | (with_reducible refine Below.setCell ?_ (by first | omega | (simp; done) | (simp; omega) | (simp at *; omega)) _) | (with_reducible exact Below.refl _ _) | (with_reducible assumption) | (with_reducible refine Below.trans ?_ (Below.mono (by assumption) (by first | omega | (simp; done) | (simp; omega) | (simp at *; omega))))))))) hSS).mono ?_
  rintro e x5 ⟨rfl, hb5⟩
  have hc5 : Below x4.heap.size x4 x5 := hb5
  have hB5 : Below w.heap.size w x5 := hB4.trans (hc5.mono hB4.size)
  have zu5 := hB5.size
  replace PB := Lib.hid (PB.out.below hc5)
  replace RB := Lib.hid (RB.out.below hc5)
  clear PB_4_0 PB_4_1 PB_4_2 PB_4_3 lPB_4 nPB_4 mPB_4 RB_4_0 RB_4_1 RB_4_2 RB_4_3 RB_4_4 RB_4_5 RB_4_6 RB_4_7 RB_4_8 lRB_4 nRB_4 mRB_4
  clear hb5 hB4 zu4 hc4
  obtain ⟨PB_5_0, PB_5_1, PB_5_2, PB_5_3⟩ := b4 PB.out
  have lPB_5 := PB.out.lt
  have nPB_5 : x5.heap.size ≠ w.heap.size := by omega
  have mPB_5 : w.heap.size ≠ x5.heap.size := by omega
  obtain ⟨RB_5_0, RB_5_1, RB_5_2, RB_5_3, RB_5_4, RB_5_5, RB_5_6, RB_5_7, RB_5_8⟩ := b9 RB.out
  have lRB_5 := RB.out.lt
  have nRB_5 : x5.heap.size ≠ w.heap.size + 1 := by omega
  have mRB_5 : w.heap.size + 1 ≠ x5.heap.size := by omega
  go_wp2_with fail
  refine (refSeconds_is nm s G D A B gn gc dn dc S _ hgn hdn hok (Lib.hid (hG.out.below (by (repeat (first | (with_reducible refine Below.drew ?_) | (with_reducible refine below_drewN ?_ _) | (with_reducible refine Below.alloc ?_ (by first | omega | (simp; done) | (simp; omega) | (simp at *; omega)) _) | (with_reducible refine Below.setCell ?_ (by first | omega | (simp; done) | (simp; omega) | (simp at *; omega)) _) | (with_reducible exact Below.refl _ _) | (with_reducible assumption) | (with_reducible refine Below.trans ?_ (Below.mono (by assumption) (by first | omega | (simp; done) | (simp; omega) | (simp at *; omega))))))))) (Lib.hid (hD.out.below (by (repeat (first | (with_reducible refine Below.drew ?_) | (with_reducible refine below_drewN ?_ _) | (with_reducible refine Below.alloc ?_ (by first | omega | (simp; done) | (simp; omega) | (simp at *; omega)) _) | (with_reducible refine Below.setCell ?_ (by first | omega | (simp; done) | (simp; omega) | (simp at *; omega)) _) | (with_reducible exact Below.refl _ _) | (with_reducible assumption) | (with_reducible refine Below.trans ?_ (Below.mono (by assumption) (by first | omega | (simp; done) | (simp; omega) | (simp at *; omega))))))))) hSS).mono ?_
  rintro e x6 ⟨rfl, hb6⟩
  have hc6 : Below x5.heap.size x5 x6 := hb6
  have hB6 : Below w.heap.size w x6 := hB5.trans (hc6.mono hB5.size)
  have zu6 := hB6.size
  replace PB := Lib.hid (PB.out.below hc6)
  replace RB := Lib.hid (RB.out.below hc6)
  clear PB_5_0 PB_5_1 PB_5_2 PB_5_3 lPB_5 nPB_5 mPB_5 RB_5_0 RB_5_1 RB_5_2 RB_5_3 RB_5_4 RB_5_5 RB_5_6 RB_5_7 RB_5_8 lRB_5 nRB_5 mRB_5
  clear hb6 hB5 zu5 hc5
  obtain ⟨PB_6_0, PB_6_1, PB_6_2, PB_6_3⟩ := b4 PB.out
  have lPB_6 := PB.out.lt
  have nPB_6 : x6.heap.size ≠ w.heap.size := by omega
  have mPB_6 : w.heap.size ≠ x6.heap.size := by omega
  obtain ⟨RB_6_0, RB_6_1, RB_6_2, RB_6_3, RB_6_4, RB_6_5, RB_6_6, RB_6_7, RB_6_8⟩ := b9 RB.out
  have lRB_6 := RB.out.lt
  have nRB_6 : x6.heap.size ≠ w.heap.size + 1 := by omega
  have mRB_6 : w.heap.size + 1 ≠ x6.heap.size := by omega
  go_wp2_with fail
  refine (wB4 t 0 S true _ hin).mono ?_
  rintro e x7 ⟨rfl, hb7⟩
  have hc7 : Below x6.heap.size x6 x7 := hb7
  have hB7 : Below w.heap.size w x7 := hB6.trans (hc7.mono hB6.size)
  have zu7 := hB7.size
  replace PB := Lib.hid (PB.out.below hc7)
  replace RB := Lib.hid (RB.out.below hc7)
  clear PB_6_0 PB_6_1 PB_6_2 PB_6_3 lPB_6 nPB_6 mPB_6 RB_6_0 RB_6_1 RB_6_2 RB_6_3 RB_6_4 RB_6_5 RB_6_6 RB_6_7 RB_6_8 lRB_6 nRB_6 mRB_6
  clear hb7 hB6 zu6 hc6
  obtain ⟨PB_7_0, PB_7_1, PB_7_2, PB_7_3⟩ := b4 PB.out
  have lPB_7 := PB.out.lt
  have nPB_7 : x7.heap.size ≠ w.heap.size := by omega
  have mPB_7 : w.heap.size ≠ x7.heap.size := by omega
  obtain ⟨RB_7_0, RB_7_1, RB_7_2, RB_7_3, RB_7_4, RB_7_5, RB_7_6, RB_7_7, RB_7_8⟩ := b9 RB.out
  have lRB_7 := RB.out.lt
  have nRB_7 : x7.heap.size ≠ w.heap.size + 1 := by omega
  have mRB_7 : w.heap.size + 1 ≠ x7.heap.size := by omega
  go_upto_region 5 with (fail)
  have HS : Hid (∀ y, Below x7.heap.size x7 y → y.cell? ⟨w.heap.size, 0, none⟩ = some (.string nm) ∧ y.cell? ⟨w.heap.size, 1, none⟩ = some (.int .i64 s) ∧ y.cell? ⟨w.heap.size, 2, none⟩ = some (.slice A gn gc) ∧ y.cell? ⟨w.heap.size, 3, none⟩ = some (.slice B dn dc) ∧ y.cell? ⟨w.heap.size + 1, 0, none⟩ = some (.slice AT tn tc) ∧ y.cell? ⟨w.heap.size + 1, 1, none⟩ = some (.int .i64 r.a) ∧ y.cell? ⟨w.heap.size + 1, 2, none⟩ = some (.int .i64 r.b) ∧ y.cell? ⟨w.heap.size + 1, 3, none⟩ = some (.int .i64 r.nc) ∧ y.cell? ⟨w.heap.size + 1, 4, none⟩ = some (.int .i64 r.dn) ∧ y.cell? ⟨w.heap.size + 1, 5, none⟩ = some (.int .i64 r.br) ∧ y.cell? ⟨w.heap.size + 1, 6, none⟩ = some (.int .i64 r.em) ∧ y.cell? ⟨w.heap.size + 1, 7, none⟩ = some (.int .i64 r.pa) ∧ y.cell? ⟨w.heap.size + 1, 8, none⟩ = some (.int .i64 r.sc)) := Lib.hid fun y hy => ⟨(hy.cell (p := ⟨w.heap.size, 0, none⟩) lPB_7).trans PB_7_0, (hy.cell (p := ⟨w.heap.size, 1, none⟩) lPB_7).trans PB_7_1, (hy.cell (p := ⟨w.heap.size, 2, none⟩) lPB_7).trans PB_7_2, (hy.cell (p := ⟨w.heap.size, 3, none⟩) lPB_7).trans PB_7_3, (hy.cell (p := ⟨w.heap.size + 1, 0, none⟩) lRB_7).trans RB_7_0, (hy.cell (p := ⟨w.heap.size + 1, 1, none⟩) lRB_7).trans RB_7_1, (hy.cell (p := ⟨w.heap.size + 1, 2, none⟩) lRB_7).trans RB_7_2, (hy.cell (p := ⟨w.heap.size + 1, 3, none⟩) lRB_7).trans RB_7_3, (hy.cell (p := ⟨w.heap.size + 1, 4, none⟩) lRB_7).trans RB_7_4, (hy.cell (p := ⟨w.heap.size + 1, 5, none⟩) lRB_7).trans RB_7_5, (hy.cell (p := ⟨w.heap.size + 1, 6, none⟩) lRB_7).trans RB_7_6, (hy.cell (p := ⟨w.heap.size + 1, 7, none⟩) lRB_7).trans RB_7_7, (hy.cell (p := ⟨w.heap.size + 1, 8, none⟩) lRB_7).trans RB_7_8⟩
  refine wp_region_held_drew (S := (fun w' => w'.cell? ⟨w.heap.size, 0, none⟩ = some (.string nm) ∧ w'.cell? ⟨w.heap.size, 1, none⟩ = some (.int .i64 s) ∧ w'.cell? ⟨w.heap.size, 2, none⟩ = some (.slice A gn gc) ∧ w'.cell? ⟨w.heap.size, 3, none⟩ = some (.slice B dn dc) ∧ w'.cell? ⟨w.heap.size + 1, 0, none⟩ = some (.slice AT tn tc) ∧ w'.cell? ⟨w.heap.size + 1, 1, none⟩ = some (.int .i64 r.a) ∧ w'.cell? ⟨w.heap.size + 1, 2, none⟩ = some (.int .i64 r.b) ∧ w'.cell? ⟨w.heap.size + 1, 3, none⟩ = some (.int .i64 r.nc) ∧ w'.cell? ⟨w.heap.size + 1, 4, none⟩ = some (.int .i64 r.dn) ∧ w'.cell? ⟨w.heap.size + 1, 5, none⟩ = some (.int .i64 r.br) ∧ w'.cell? ⟨w.heap.size + 1, 6, none⟩ = some (.int .i64 r.em) ∧ w'.cell? ⟨w.heap.size + 1, 7, none⟩ = some (.int .i64 r.pa) ∧ w'.cell? ⟨w.heap.size + 1, 8, none⟩ = some (.int .i64 r.sc))) (by kernel_rfl) (HS.out _ (Below.refl _ _).drew) (fun hHeld => ?_)
  have hT0 : Below x7.heap.size x7 x7.drew := (Below.refl _ _).drew
  generalize hdr : x7.drew = y7v0 at *
  clear hdr
  refine tkH 0 ⟨some 57, _, _, _, _, _⟩ ?_ rfl ?_ (by assumption) ?_
  rotate_left
  · (intro w hSw; (try dsimp only at hSw); go_simp; all_goals with_reducible rfl)
  try simp only [Act.put, sA, sB, sC]
  refine tkH 2 ⟨some 59, _, _, _, _, _⟩ ?_ rfl ?_ (by assumption) ?_
  rotate_left
  · (intro w hSw; (try dsimp only at hSw); go_simp; all_goals with_reducible rfl)
  try simp only [Act.put, sA, sB, sC]
  refine wpAnyH_ready (rs := [1]) (by kernel_rfl) (by simp) ?_
  refine AllReadyH.cons rfl (fun K hK => ?_) (AllReadyH.nil)
  go_simp
  refine (copyP_is nm s G D A B gn gc dn dc _ hgn hdn hg6 hd6 (Lib.hid (hG.out.below (hB7.trans (hT0.mono hB7.size)))) (Lib.hid (hD.out.below (hB7.trans (hT0.mono hB7.size)))) CG CD).mono ?_
  rintro e y7v1 ⟨A1, ca1, B1, cb1, rfl, hsg, hsd, hna, hnb, hby7v0⟩
  have hT1 : Below x7.heap.size x7 y7v1 := hT0.trans (hby7v0.mono hT0.size)
  have HG1 := Lib.hid hsg
  have HD1 := Lib.hid hsd
  clear hsg hsd hna hnb
  clear hby7v0
  go_wp2_with fail
  refine hK.out _ _ (HS.out _ hT1) (fun hHeld => ?_)
  clear hK K
  try simp only [Act.put, sA, sB, sC]
  refine wpAnyH_ready (rs := [3]) (by kernel_rfl) (by simp) ?_
  refine AllReadyH.cons rfl (fun K hK => ?_) (AllReadyH.nil)
  go_simp
  refine (copyR_is T r AT tn tc _ htn ht6 (Lib.hid (hT.out.below (hB7.trans (hT1.mono hB7.size)))) CT).mono ?_
  rintro e y7v2 ⟨AT1, ct1, rfl, hst, hby7v1⟩
  have hT2 : Below x7.heap.size x7 y7v2 := hT1.trans (hby7v1.mono hT1.size)
  replace HG1 := Lib.hid (HG1.out.below hby7v1)
  replace HD1 := Lib.hid (HD1.out.below hby7v1)
  have HT1 := Lib.hid hst
  clear hst
  clear hby7v1
  go_wp2_with fail
  refine hK.out _ _ (HS.out _ hT2) (fun hHeld => ?_)
  clear hK K
  try simp only [Act.put, sA, sB, sC]
  refine wpAnyH_ready (rs := [4]) (by kernel_rfl) (by simp) ?_
  refine AllReadyH.cons rfl (fun K hK => ?_) (AllReadyH.nil)
  go_simp
  refine (cl_good (Reserves_any nm s G D A1 B1 gn ca1 dn cb1 T r AT1 tn ct1 gF vF sF NN N 0 0 0 _ hz hgn hgl hdn hdl HG1 HD1 htn htl HT1 hE0 hE1 hE hF9 hNN) rfl).mono ?_
  rintro e y7v3 ⟨lb, cl, rfl, hsl, hlge, hby7v2⟩
  have hT3 : Below x7.heap.size x7 y7v3 := hT2.trans (hby7v2.mono hT2.size)
  replace HG1 := Lib.hid (HG1.out.below hby7v2)
  replace HD1 := Lib.hid (HD1.out.below hby7v2)
  replace HT1 := Lib.hid (HT1.out.below hby7v2)
  rw [hl9.out] at hsl
  have HL := Lib.hid hsl
  clear hsl hlge
  clear hby7v2
  go_wp2_with fail
  refine hK.out _ _ (HS.out _ hT3) (fun hHeld => ?_)
  clear hK K
  try simp only [Act.put, sA, sB, sC]
  refine tkH 5 ⟨some 56, _, _, _, _, _⟩ ?_ rfl ?_ (by assumption) ?_
  rotate_left
  · (intro w hSw; (try dsimp only at hSw); go_simp; all_goals with_reducible rfl)
  try simp only [Act.put, sA, sB, sC]
  refine tkH 6 ⟨some 62, _, _, _, _, _⟩ ?_ rfl ?_ (by assumption) ?_
  rotate_left
  · (intro w hSw; (try dsimp only at hSw); go_simp; all_goals with_reducible rfl)
  try simp only [Act.put, sA, sB, sC]
  refine tkH 7 ⟨some 63, _, _, _, _, _⟩ ?_ rfl ?_ (by assumption) ?_
  rotate_left
  · (intro w hSw; (try dsimp only at hSw); go_simp; all_goals with_reducible rfl)
  try simp only [Act.put, sA, sB, sC]
  refine tkH 8 ⟨some 7, _, _, _, _, _⟩ ?_ rfl ?_ (by assumption) ?_
  rotate_left
  · (intro w hSw; (try dsimp only at hSw); go_simp; all_goals with_reducible rfl)
  try simp only [Act.put, sA, sB, sC]
  refine tkH 9 ⟨some 8, _, _, _, _, _⟩ ?_ rfl ?_ (by assumption) ?_
  rotate_left
  · (intro w hSw; (try dsimp only at hSw); go_simp; all_goals with_reducible rfl)
  try simp only [Act.put, sA, sB, sC]
  refine wpAnyH_done (by kernel_rfl) ?_ _
  have hc8 : Below x7.heap.size x7 y7v3 := hT3
  have hB8 : Below w.heap.size w y7v3 := hB7.trans (hc8.mono hB7.size)
  have zu8 := hB8.size
  replace PB := Lib.hid (PB.out.below hc8)
  replace RB := Lib.hid (RB.out.below hc8)
  clear PB_7_0 PB_7_1 PB_7_2 PB_7_3 lPB_7 nPB_7 mPB_7 RB_7_0 RB_7_1 RB_7_2 RB_7_3 RB_7_4 RB_7_5 RB_7_6 RB_7_7 RB_7_8 lRB_7 nRB_7 mRB_7
  clear HS hHeld hT0 hT1 hT2 hT3 hB7 zu7 hc7
  obtain ⟨PB_8_0, PB_8_1, PB_8_2, PB_8_3⟩ := b4 PB.out
  have lPB_8 := PB.out.lt
  have nPB_8 : y7v3.heap.size ≠ w.heap.size := by omega
  have mPB_8 : w.heap.size ≠ y7v3.heap.size := by omega
  obtain ⟨RB_8_0, RB_8_1, RB_8_2, RB_8_3, RB_8_4, RB_8_5, RB_8_6, RB_8_7, RB_8_8⟩ := b9 RB.out
  have lRB_8 := RB.out.lt
  have nRB_8 : y7v3.heap.size ≠ w.heap.size + 1 := by omega
  have mRB_8 : w.heap.size + 1 ≠ y7v3.heap.size := by omega
  clear HG1
  clear HD1
  clear HT1
  go_wp2_with fail
  refine (copyP_is nm s G D A B gn gc dn dc _ hgn hdn hg6 hd6 (Lib.hid (hG.out.below (by (repeat (first | (with_reducible refine Below.drew ?_) | (with_reducible refine below_drewN ?_ _) | (with_reducible refine Below.alloc ?_ (by first | omega | (simp; done) | (simp; omega) | (simp at *; omega)) _) | (with_reducible refine Below.setCell ?_ (by first | omega | (simp; done) | (simp; omega) | (simp at *; omega)) _) | (with_reducible exact Below.refl _ _) | (with_reducible assumption) | (with_reducible refine Below.trans ?_ (Below.mono (by assumption) (by first | omega | (simp; done) | (simp; omega) | (simp at *; omega))))))))) (Lib.hid (hD.out.below (by (repeat (first | (with_reducible refine Below.drew ?_) | (with_reducible refine below_drewN ?_ _) | (with_reducible refine Below.alloc ?_ (by first | omega | (simp; done) | (simp; omega) | (simp at *; omega)) _) | (with_reducible refine Below.setCell ?_ (by first | omega | (simp; done) | (simp; omega) | (simp at *; omega)) _) | (with_reducible exact Below.refl _ _) | (with_reducible assumption) | (with_reducible refine Below.trans ?_ (Below.mono (by assumption) (by first | omega | (simp; done) | (simp; omega) | (simp at *; omega))))))))) CG CD).mono ?_
  rintro e x9 ⟨A2, ca2, B2, cb2, rfl, hsg, hsd, hna, hnb, hb9⟩
  have hc9 : Below y7v3.heap.size y7v3 x9 := hb9
  have hB9 : Below w.heap.size w x9 := hB8.trans (hc9.mono hB8.size)
  have zu9 := hB9.size
  replace HL := Lib.hid (HL.out.below hc9)
  replace PB := Lib.hid (PB.out.below hc9)
  replace RB := Lib.hid (RB.out.below hc9)
  have HG2 := Lib.hid hsg
  have HD2 := Lib.hid hsd
  clear hsg hsd hna hnb
  clear PB_8_0 PB_8_1 PB_8_2 PB_8_3 lPB_8 nPB_8 mPB_8 RB_8_0 RB_8_1 RB_8_2 RB_8_3 RB_8_4 RB_8_5 RB_8_6 RB_8_7 RB_8_8 lRB_8 nRB_8 mRB_8
  clear hb9 hB8 zu8 hc8
  obtain ⟨PB_9_0, PB_9_1, PB_9_2, PB_9_3⟩ := b4 PB.out
  have lPB_9 := PB.out.lt
  have nPB_9 : x9.heap.size ≠ w.heap.size := by omega
  have mPB_9 : w.heap.size ≠ x9.heap.size := by omega
  obtain ⟨RB_9_0, RB_9_1, RB_9_2, RB_9_3, RB_9_4, RB_9_5, RB_9_6, RB_9_7, RB_9_8⟩ := b9 RB.out
  have lRB_9 := RB.out.lt
  have nRB_9 : x9.heap.size ≠ w.heap.size + 1 := by omega
  have mRB_9 : w.heap.size + 1 ≠ x9.heap.size := by omega
  go_wp2_with fail
  refine (GasAt_ok nm s G D A2 B2 gn ca2 dn cb2 N kk gk t _ hz hgn hgl hdn hdl HG2 HD2 hE0 hok ht0 ht1 hk hk2 hk3 hg).mono ?_
  rintro e x10 ⟨rfl, hb10⟩
  have hc10 : Below x9.heap.size x9 x10 := hb10
  have hB10 : Below w.heap.size w x10 := hB9.trans (hc10.mono hB9.size)
  have zu10 := hB10.size
  replace HL := Lib.hid (HL.out.below hc10)
  replace HG2 := Lib.hid (HG2.out.below hc10)
  replace HD2 := Lib.hid (HD2.out.below hc10)
  replace PB := Lib.hid (PB.out.below hc10)
  replace RB := Lib.hid (RB.out.below hc10)
  clear PB_9_0 PB_9_1 PB_9_2 PB_9_3 lPB_9 nPB_9 mPB_9 RB_9_0 RB_9_1 RB_9_2 RB_9_3 RB_9_4 RB_9_5 RB_9_6 RB_9_7 RB_9_8 lRB_9 nRB_9 mRB_9
  clear hb10 hB9 zu9 hc9
  obtain ⟨PB_10_0, PB_10_1, PB_10_2, PB_10_3⟩ := b4 PB.out
  have lPB_10 := PB.out.lt
  have nPB_10 : x10.heap.size ≠ w.heap.size := by omega
  have mPB_10 : w.heap.size ≠ x10.heap.size := by omega
  obtain ⟨RB_10_0, RB_10_1, RB_10_2, RB_10_3, RB_10_4, RB_10_5, RB_10_6, RB_10_7, RB_10_8⟩ := b9 RB.out
  have lRB_10 := RB.out.lt
  have nRB_10 : x10.heap.size ≠ w.heap.size + 1 := by omega
  have mRB_10 : w.heap.size + 1 ≠ x10.heap.size := by omega
  clear HG2
  clear HD2
  go_wp2_with fail
  refine (copyP_is nm s G D A B gn gc dn dc _ hgn hdn hg6 hd6 (Lib.hid (hG.out.below (by (repeat (first | (with_reducible refine Below.drew ?_) | (with_reducible refine below_drewN ?_ _) | (with_reducible refine Below.alloc ?_ (by first | omega | (simp; done) | (simp; omega) | (simp at *; omega)) _) | (with_reducible refine Below.setCell ?_ (by first | omega | (simp; done) | (simp; omega) | (simp at *; omega)) _) | (with_reducible exact Below.refl _ _) | (with_reducible assumption) | (with_reducible refine Below.trans ?_ (Below.mono (by assumption) (by first | omega | (simp; done) | (simp; omega) | (simp at *; omega))))))))) (Lib.hid (hD.out.below (by (repeat (first | (with_reducible refine Below.drew ?_) | (with_reducible refine below_drewN ?_ _) | (with_reducible refine Below.alloc ?_ (by first | omega | (simp; done) | (simp; omega) | (simp at *; omega)) _) | (with_reducible refine Below.setCell ?_ (by first | omega | (simp; done) | (simp; omega) | (simp at *; omega)) _) | (with_reducible exact Below.refl _ _) | (with_reducible assumption) | (with_reducible refine Below.trans ?_ (Below.mono (by assumption) (by first | omega | (simp; done) | (simp; omega) | (simp at *; omega))))))))) CG CD).mono ?_
  rintro e x11 ⟨A3, ca3, B3, cb3, rfl, hsg, hsd, hna, hnb, hb11⟩
  have hc11 : Below x10.heap.size x10 x11 := hb11
  have hB11 : Below w.heap.size w x11 := hB10.trans (hc11.mono hB10.size)
  have zu11 := hB11.size
  replace HL := Lib.hid (HL.out.below hc11)
  replace PB := Lib.hid (PB.out.below hc11)
  replace RB := Lib.hid (RB.out.below hc11)
  have HG3 := Lib.hid hsg
  have HD3 := Lib.hid hsd
  clear hsg hsd hna hnb
  clear PB_10_0 PB_10_1 PB_10_2 PB_10_3 lPB_10 nPB_10 mPB_10 RB_10_0 RB_10_1 RB_10_2 RB_10_3 RB_10_4 RB_10_5 RB_10_6 RB_10_7 RB_10_8 lRB_10 nRB_10 mRB_10
  clear hb11 hB10 zu10 hc10
  obtain ⟨PB_11_0, PB_11_1, PB_11_2, PB_11_3⟩ := b4 PB.out
  have lPB_11 := PB.out.lt
  have nPB_11 : x11.heap.size ≠ w.heap.size := by omega
  have mPB_11 : w.heap.size ≠ x11.heap.size := by omega
  obtain ⟨RB_11_0, RB_11_1, RB_11_2, RB_11_3, RB_11_4, RB_11_5, RB_11_6, RB_11_7, RB_11_8⟩ := b9 RB.out
  have lRB_11 := RB.out.lt
  have nRB_11 : x11.heap.size ≠ w.heap.size + 1 := by omega
  have mRB_11 : w.heap.size + 1 ≠ x11.heap.size := by omega
  go_wp2_with fail
  refine (DepthAt_ok nm s G D A3 B3 gn ca3 dn cb3 N kk t xa ya xb yb num den lo hi _ hz hgn hgl hdn hdl HG3 HD3 hE0 hok ht0 ht1 hk hk2 hk3 hxa hya hxb hyb a0 a1 a2 a3 ax e0 e1 f0 f1 hnum hden hlo hhi hn0 hn1).mono ?_
  rintro e x12 ⟨rfl, hb12⟩
  have hc12 : Below x11.heap.size x11 x12 := hb12
  have hB12 : Below w.heap.size w x12 := hB11.trans (hc12.mono hB11.size)
  have zu12 := hB12.size
  replace HL := Lib.hid (HL.out.below hc12)
  replace HG3 := Lib.hid (HG3.out.below hc12)
  replace HD3 := Lib.hid (HD3.out.below hc12)
  replace PB := Lib.hid (PB.out.below hc12)
  replace RB := Lib.hid (RB.out.below hc12)
  clear PB_11_0 PB_11_1 PB_11_2 PB_11_3 lPB_11 nPB_11 mPB_11 RB_11_0 RB_11_1 RB_11_2 RB_11_3 RB_11_4 RB_11_5 RB_11_6 RB_11_7 RB_11_8 lRB_11 nRB_11 mRB_11
  clear hb12 hB11 zu11 hc11
  obtain ⟨PB_12_0, PB_12_1, PB_12_2, PB_12_3⟩ := b4 PB.out
  have lPB_12 := PB.out.lt
  have nPB_12 : x12.heap.size ≠ w.heap.size := by omega
  have mPB_12 : w.heap.size ≠ x12.heap.size := by omega
  obtain ⟨RB_12_0, RB_12_1, RB_12_2, RB_12_3, RB_12_4, RB_12_5, RB_12_6, RB_12_7, RB_12_8⟩ := b9 RB.out
  have lRB_12 := RB.out.lt
  have nRB_12 : x12.heap.size ≠ w.heap.size + 1 := by omega
  have mRB_12 : w.heap.size + 1 ≠ x12.heap.size := by omega
  clear HG3
  clear HD3
  go_upto_region 8 with (fail)
  refine wp_worldE (fun u => Below x12.heap.size x12 u ∧ BlkF u w.heap.size (x12.heap.size) [.int .i64 lo, .int .i64 hi]) ⟨(Below.refl _ _).alloc (by first | exact Nat.le_refl _ | (simp; done) | (simp; omega)) _, BlkF.made (B := w.heap.size) x12 [.int .i64 lo, .int .i64 hi] 46 (by first | exact Nat.le_refl _ | exact hB12.size | (simp; done) | (simp; omega))⟩ (fun x13 hu13 => ?_)
  obtain ⟨hc13, qQB⟩ := hu13
  have QB := Lib.hid qQB
  clear qQB
  have hB13 : Below w.heap.size w x13 := hB12.trans (hc13.mono hB12.size)
  have zu13 := hB13.size
  replace HL := Lib.hid (HL.out.below hc13)
  replace PB := Lib.hid (PB.out.below hc13)
  replace RB := Lib.hid (RB.out.below hc13)
  clear PB_12_0 PB_12_1 PB_12_2 PB_12_3 lPB_12 nPB_12 mPB_12 RB_12_0 RB_12_1 RB_12_2 RB_12_3 RB_12_4 RB_12_5 RB_12_6 RB_12_7 RB_12_8 lRB_12 nRB_12 mRB_12
  clear hB12 zu12 hc12
  obtain ⟨PB_13_0, PB_13_1, PB_13_2, PB_13_3⟩ := b4 PB.out
  have lPB_13 := PB.out.lt
  have nPB_13 : x13.heap.size ≠ w.heap.size := by omega
  have mPB_13 : w.heap.size ≠ x13.heap.size := by omega
  obtain ⟨RB_13_0, RB_13_1, RB_13_2, RB_13_3, RB_13_4, RB_13_5, RB_13_6, RB_13_7, RB_13_8⟩ := b9 RB.out
  have lRB_13 := RB.out.lt
  have nRB_13 : x13.heap.size ≠ w.heap.size + 1 := by omega
  have mRB_13 : w.heap.size + 1 ≠ x13.heap.size := by omega
  obtain ⟨QB_13_0, QB_13_1⟩ := b2 QB.out
  have lQB_13 := QB.out.lt
  have nQB_13 : x13.heap.size ≠ x12.heap.size := by omega
  have mQB_13 : x12.heap.size ≠ x13.heap.size := by omega
  have HS : Hid (∀ y, Below x13.heap.size x13 y → y.cell? ⟨w.heap.size, 0, none⟩ = some (.string nm) ∧ y.cell? ⟨w.heap.size, 1, none⟩ = some (.int .i64 s) ∧ y.cell? ⟨w.heap.size, 2, none⟩ = some (.slice A gn gc) ∧ y.cell? ⟨w.heap.size, 3, none⟩ = some (.slice B dn dc) ∧ y.cell? ⟨w.heap.size + 1, 0, none⟩ = some (.slice AT tn tc) ∧ y.cell? ⟨w.heap.size + 1, 1, none⟩ = some (.int .i64 r.a) ∧ y.cell? ⟨w.heap.size + 1, 2, none⟩ = some (.int .i64 r.b) ∧ y.cell? ⟨w.heap.size + 1, 3, none⟩ = some (.int .i64 r.nc) ∧ y.cell? ⟨w.heap.size + 1, 4, none⟩ = some (.int .i64 r.dn) ∧ y.cell? ⟨w.heap.size + 1, 5, none⟩ = some (.int .i64 r.br) ∧ y.cell? ⟨w.heap.size + 1, 6, none⟩ = some (.int .i64 r.em) ∧ y.cell? ⟨w.heap.size + 1, 7, none⟩ = some (.int .i64 r.pa) ∧ y.cell? ⟨w.heap.size + 1, 8, none⟩ = some (.int .i64 r.sc) ∧ y.cell? ⟨x12.heap.size, 0, none⟩ = some (.int .i64 lo) ∧ y.cell? ⟨x12.heap.size, 1, none⟩ = some (.int .i64 hi)) := Lib.hid fun y hy => ⟨(hy.cell (p := ⟨w.heap.size, 0, none⟩) lPB_13).trans PB_13_0, (hy.cell (p := ⟨w.heap.size, 1, none⟩) lPB_13).trans PB_13_1, (hy.cell (p := ⟨w.heap.size, 2, none⟩) lPB_13).trans PB_13_2, (hy.cell (p := ⟨w.heap.size, 3, none⟩) lPB_13).trans PB_13_3, (hy.cell (p := ⟨w.heap.size + 1, 0, none⟩) lRB_13).trans RB_13_0, (hy.cell (p := ⟨w.heap.size + 1, 1, none⟩) lRB_13).trans RB_13_1, (hy.cell (p := ⟨w.heap.size + 1, 2, none⟩) lRB_13).trans RB_13_2, (hy.cell (p := ⟨w.heap.size + 1, 3, none⟩) lRB_13).trans RB_13_3, (hy.cell (p := ⟨w.heap.size + 1, 4, none⟩) lRB_13).trans RB_13_4, (hy.cell (p := ⟨w.heap.size + 1, 5, none⟩) lRB_13).trans RB_13_5, (hy.cell (p := ⟨w.heap.size + 1, 6, none⟩) lRB_13).trans RB_13_6, (hy.cell (p := ⟨w.heap.size + 1, 7, none⟩) lRB_13).trans RB_13_7, (hy.cell (p := ⟨w.heap.size + 1, 8, none⟩) lRB_13).trans RB_13_8, (hy.cell (p := ⟨x12.heap.size, 0, none⟩) lQB_13).trans QB_13_0, (hy.cell (p := ⟨x12.heap.size, 1, none⟩) lQB_13).trans QB_13_1⟩
  refine wp_region_held_drew (S := (fun w' => w'.cell? ⟨w.heap.size, 0, none⟩ = some (.string nm) ∧ w'.cell? ⟨w.heap.size, 1, none⟩ = some (.int .i64 s) ∧ w'.cell? ⟨w.heap.size, 2, none⟩ = some (.slice A gn gc) ∧ w'.cell? ⟨w.heap.size, 3, none⟩ = some (.slice B dn dc) ∧ w'.cell? ⟨w.heap.size + 1, 0, none⟩ = some (.slice AT tn tc) ∧ w'.cell? ⟨w.heap.size + 1, 1, none⟩ = some (.int .i64 r.a) ∧ w'.cell? ⟨w.heap.size + 1, 2, none⟩ = some (.int .i64 r.b) ∧ w'.cell? ⟨w.heap.size + 1, 3, none⟩ = some (.int .i64 r.nc) ∧ w'.cell? ⟨w.heap.size + 1, 4, none⟩ = some (.int .i64 r.dn) ∧ w'.cell? ⟨w.heap.size + 1, 5, none⟩ = some (.int .i64 r.br) ∧ w'.cell? ⟨w.heap.size + 1, 6, none⟩ = some (.int .i64 r.em) ∧ w'.cell? ⟨w.heap.size + 1, 7, none⟩ = some (.int .i64 r.pa) ∧ w'.cell? ⟨w.heap.size + 1, 8, none⟩ = some (.int .i64 r.sc) ∧ w'.cell? ⟨x12.heap.size, 0, none⟩ = some (.int .i64 lo) ∧ w'.cell? ⟨x12.heap.size, 1, none⟩ = some (.int .i64 hi))) (by kernel_rfl) (HS.out _ (Below.refl _ _).drew) (fun hHeld => ?_)
  have hT0 : Below x13.heap.size x13 x13.drew := (Below.refl _ _).drew
  generalize hdr : x13.drew = y13v0 at *
  clear hdr
  refine tkH 0 ⟨some 79, _, _, _, _, _⟩ ?_ rfl ?_ (by assumption) ?_
  rotate_left
  · (intro w hSw; (try dsimp only at hSw); go_simp; all_goals with_reducible rfl)
  try simp only [Act.put, sA, sB, sC]
  refine tkH 2 ⟨some 81, _, _, _, _, _⟩ ?_ rfl ?_ (by assumption) ?_
  rotate_left
  · (intro w hSw; (try dsimp only at hSw); go_simp; all_goals with_reducible rfl)
  try simp only [Act.put, sA, sB, sC]
  refine tkH 3 ⟨some 82, _, _, _, _, _⟩ ?_ rfl ?_ (by assumption) ?_
  rotate_left
  · (intro w hSw; (try dsimp only at hSw); go_simp; all_goals with_reducible rfl)
  try simp only [Act.put, sA, sB, sC]
  refine tkH 4 ⟨some 83, _, _, _, _, _⟩ ?_ rfl ?_ (by assumption) ?_
  rotate_left
  · (intro w hSw; (try dsimp only at hSw); go_simp; all_goals with_reducible rfl)
  try simp only [Act.put, sA, sB, sC]
  refine wpAnyH_ready (rs := [1]) (by kernel_rfl) (by simp) ?_
  refine AllReadyH.cons rfl (fun K hK => ?_) (AllReadyH.nil)
  go_simp
  refine (copyP_is nm s G D A B gn gc dn dc _ hgn hdn hg6 hd6 (Lib.hid (hG.out.below (hB13.trans (hT0.mono hB13.size)))) (Lib.hid (hD.out.below (hB13.trans (hT0.mono hB13.size)))) CG CD).mono ?_
  rintro e y13v1 ⟨A4, ca4, B4, cb4, rfl, hsg, hsd, hna, hnb, hby13v0⟩
  have hT1 : Below x13.heap.size x13 y13v1 := hT0.trans (hby13v0.mono hT0.size)
  have HG4 := Lib.hid hsg
  have HD4 := Lib.hid hsd
  clear hsg hsd hna hnb
  clear hby13v0
  go_wp2_with fail
  refine hK.out _ _ (HS.out _ hT1) (fun hHeld => ?_)
  clear hK K
  try simp only [Act.put, sA, sB, sC]
  refine wpAnyH_ready (rs := [5]) (by kernel_rfl) (by simp) ?_
  refine AllReadyH.cons rfl (fun K hK => ?_) (AllReadyH.nil)
  go_simp
  refine (cl_good (ConsumedAt_any nm s G D A4 B4 gn ca4 dn cb4 N r.br t 0 0 0 0 0 _ hz hgn hgl hdn hdl HG4 HD4 hE0 hEb hF2 hF3 hE4) rfl).mono ?_
  rintro e y13v2 ⟨ub, rfl, hsu, huge, hby13v1⟩
  have hT2 : Below x13.heap.size x13 y13v2 := hT1.trans (hby13v1.mono hT1.size)
  replace HG4 := Lib.hid (HG4.out.below hby13v1)
  replace HD4 := Lib.hid (HD4.out.below hby13v1)
  rw [hu9.out] at hsu
  have HU := Lib.hid hsu
  clear hsu huge
  clear hby13v1
  go_wp2_with fail
  refine hK.out _ _ (HS.out _ hT2) (fun hHeld => ?_)
  clear hK K
  try simp only [Act.put, sA, sB, sC]
  refine tkH 6 ⟨some 78, _, _, _, _, _⟩ ?_ rfl ?_ (by assumption) ?_
  rotate_left
  · (intro w hSw; (try dsimp only at hSw); go_simp; all_goals with_reducible rfl)
  try simp only [Act.put, sA, sB, sC]
  refine tkH 7 ⟨some 85, _, _, _, _, _⟩ ?_ rfl ?_ (by assumption) ?_
  rotate_left
  · (intro w hSw; (try dsimp only at hSw); go_simp; all_goals with_reducible rfl)
  try simp only [Act.put, sA, sB, sC]
  refine tkH 8 ⟨some 86, _, _, _, _, _⟩ ?_ rfl ?_ (by assumption) ?_
  rotate_left
  · (intro w hSw; (try dsimp only at hSw); go_simp; all_goals with_reducible rfl)
  try simp only [Act.put, sA, sB, sC]
  refine tkH 9 ⟨some 13, _, _, _, _, _⟩ ?_ rfl ?_ (by assumption) ?_
  rotate_left
  · (intro w hSw; (try dsimp only at hSw); go_simp; all_goals with_reducible rfl)
  try simp only [Act.put, sA, sB, sC]
  refine tkH 10 ⟨some 14, _, _, _, _, _⟩ ?_ rfl ?_ (by assumption) ?_
  rotate_left
  · (intro w hSw; (try dsimp only at hSw); go_simp; all_goals with_reducible rfl)
  try simp only [Act.put, sA, sB, sC]
  refine wpAnyH_done (by kernel_rfl) ?_ _
  have hc14 : Below x13.heap.size x13 y13v2 := hT2
  have hB14 : Below w.heap.size w y13v2 := hB13.trans (hc14.mono hB13.size)
  have zu14 := hB14.size
  replace HL := Lib.hid (HL.out.below hc14)
  replace PB := Lib.hid (PB.out.below hc14)
  replace RB := Lib.hid (RB.out.below hc14)
  replace QB := Lib.hid (QB.out.below hc14)
  clear PB_13_0 PB_13_1 PB_13_2 PB_13_3 lPB_13 nPB_13 mPB_13 RB_13_0 RB_13_1 RB_13_2 RB_13_3 RB_13_4 RB_13_5 RB_13_6 RB_13_7 RB_13_8 lRB_13 nRB_13 mRB_13 QB_13_0 QB_13_1 lQB_13 nQB_13 mQB_13
  clear HS hHeld hT0 hT1 hT2 hB13 zu13 hc13
  obtain ⟨PB_14_0, PB_14_1, PB_14_2, PB_14_3⟩ := b4 PB.out
  have lPB_14 := PB.out.lt
  have nPB_14 : y13v2.heap.size ≠ w.heap.size := by omega
  have mPB_14 : w.heap.size ≠ y13v2.heap.size := by omega
  obtain ⟨RB_14_0, RB_14_1, RB_14_2, RB_14_3, RB_14_4, RB_14_5, RB_14_6, RB_14_7, RB_14_8⟩ := b9 RB.out
  have lRB_14 := RB.out.lt
  have nRB_14 : y13v2.heap.size ≠ w.heap.size + 1 := by omega
  have mRB_14 : w.heap.size + 1 ≠ y13v2.heap.size := by omega
  obtain ⟨QB_14_0, QB_14_1⟩ := b2 QB.out
  have lQB_14 := QB.out.lt
  have nQB_14 : y13v2.heap.size ≠ x12.heap.size := by omega
  have mQB_14 : x12.heap.size ≠ y13v2.heap.size := by omega
  clear HG4
  clear HD4
  go_wp2_with fail
  refine (wB4 (gk : Int) 0 ((gn : Int) - 1) true _ hwg).mono ?_
  rintro e x15 ⟨rfl, hb15⟩
  have hc15 : Below y13v2.heap.size y13v2 x15 := hb15
  have hB15 : Below w.heap.size w x15 := hB14.trans (hc15.mono hB14.size)
  have zu15 := hB15.size
  replace HL := Lib.hid (HL.out.below hc15)
  replace HU := Lib.hid (HU.out.below hc15)
  replace PB := Lib.hid (PB.out.below hc15)
  replace RB := Lib.hid (RB.out.below hc15)
  replace QB := Lib.hid (QB.out.below hc15)
  clear PB_14_0 PB_14_1 PB_14_2 PB_14_3 lPB_14 nPB_14 mPB_14 RB_14_0 RB_14_1 RB_14_2 RB_14_3 RB_14_4 RB_14_5 RB_14_6 RB_14_7 RB_14_8 lRB_14 nRB_14 mRB_14 QB_14_0 QB_14_1 lQB_14 nQB_14 mQB_14
  clear hb15 hB14 zu14 hc14
  obtain ⟨PB_15_0, PB_15_1, PB_15_2, PB_15_3⟩ := b4 PB.out
  have lPB_15 := PB.out.lt
  have nPB_15 : x15.heap.size ≠ w.heap.size := by omega
  have mPB_15 : w.heap.size ≠ x15.heap.size := by omega
  obtain ⟨RB_15_0, RB_15_1, RB_15_2, RB_15_3, RB_15_4, RB_15_5, RB_15_6, RB_15_7, RB_15_8⟩ := b9 RB.out
  have lRB_15 := RB.out.lt
  have nRB_15 : x15.heap.size ≠ w.heap.size + 1 := by omega
  have mRB_15 : w.heap.size + 1 ≠ x15.heap.size := by omega
  obtain ⟨QB_15_0, QB_15_1⟩ := b2 QB.out
  have lQB_15 := QB.out.lt
  have nQB_15 : x15.heap.size ≠ x12.heap.size := by omega
  have mQB_15 : x12.heap.size ≠ x15.heap.size := by omega
  go_wp2_with fail
  refine (sumOf_is U9 ub 0 gn gn _ hun hg8 HU hub).mono ?_
  rintro e x16 ⟨zs, hzs0, rfl, hb16⟩
  have hc16 : Below x15.heap.size x15 x16 := hb16
  have hB16 : Below w.heap.size w x16 := hB15.trans (hc16.mono hB15.size)
  have zu16 := hB16.size
  replace HL := Lib.hid (HL.out.below hc16)
  replace HU := Lib.hid (HU.out.below hc16)
  replace PB := Lib.hid (PB.out.below hc16)
  replace RB := Lib.hid (RB.out.below hc16)
  replace QB := Lib.hid (QB.out.below hc16)
  have hzn : ¬ zs < 0 := by omega
  clear PB_15_0 PB_15_1 PB_15_2 PB_15_3 lPB_15 nPB_15 mPB_15 RB_15_0 RB_15_1 RB_15_2 RB_15_3 RB_15_4 RB_15_5 RB_15_6 RB_15_7 RB_15_8 lRB_15 nRB_15 mRB_15 QB_15_0 QB_15_1 lQB_15 nQB_15 mQB_15
  clear hb16 hB15 zu15 hc15
  obtain ⟨PB_16_0, PB_16_1, PB_16_2, PB_16_3⟩ := b4 PB.out
  have lPB_16 := PB.out.lt
  have nPB_16 : x16.heap.size ≠ w.heap.size := by omega
  have mPB_16 : w.heap.size ≠ x16.heap.size := by omega
  obtain ⟨RB_16_0, RB_16_1, RB_16_2, RB_16_3, RB_16_4, RB_16_5, RB_16_6, RB_16_7, RB_16_8⟩ := b9 RB.out
  have lRB_16 := RB.out.lt
  have nRB_16 : x16.heap.size ≠ w.heap.size + 1 := by omega
  have mRB_16 : w.heap.size + 1 ≠ x16.heap.size := by omega
  obtain ⟨QB_16_0, QB_16_1⟩ := b2 QB.out
  have lQB_16 := QB.out.lt
  have nQB_16 : x16.heap.size ≠ x12.heap.size := by omega
  have mQB_16 : x12.heap.size ≠ x16.heap.size := by omega
  go_upto_region 11 with (fail)
  have HS : Hid (∀ y, Below x16.heap.size x16 y → y.cell? ⟨w.heap.size, 0, none⟩ = some (.string nm) ∧ y.cell? ⟨w.heap.size, 1, none⟩ = some (.int .i64 s) ∧ y.cell? ⟨w.heap.size, 2, none⟩ = some (.slice A gn gc) ∧ y.cell? ⟨w.heap.size, 3, none⟩ = some (.slice B dn dc) ∧ y.cell? ⟨w.heap.size + 1, 0, none⟩ = some (.slice AT tn tc) ∧ y.cell? ⟨w.heap.size + 1, 1, none⟩ = some (.int .i64 r.a) ∧ y.cell? ⟨w.heap.size + 1, 2, none⟩ = some (.int .i64 r.b) ∧ y.cell? ⟨w.heap.size + 1, 3, none⟩ = some (.int .i64 r.nc) ∧ y.cell? ⟨w.heap.size + 1, 4, none⟩ = some (.int .i64 r.dn) ∧ y.cell? ⟨w.heap.size + 1, 5, none⟩ = some (.int .i64 r.br) ∧ y.cell? ⟨w.heap.size + 1, 6, none⟩ = some (.int .i64 r.em) ∧ y.cell? ⟨w.heap.size + 1, 7, none⟩ = some (.int .i64 r.pa) ∧ y.cell? ⟨w.heap.size + 1, 8, none⟩ = some (.int .i64 r.sc) ∧ y.cell? ⟨x12.heap.size, 0, none⟩ = some (.int .i64 lo) ∧ y.cell? ⟨x12.heap.size, 1, none⟩ = some (.int .i64 hi)) := Lib.hid fun y hy => ⟨(hy.cell (p := ⟨w.heap.size, 0, none⟩) lPB_16).trans PB_16_0, (hy.cell (p := ⟨w.heap.size, 1, none⟩) lPB_16).trans PB_16_1, (hy.cell (p := ⟨w.heap.size, 2, none⟩) lPB_16).trans PB_16_2, (hy.cell (p := ⟨w.heap.size, 3, none⟩) lPB_16).trans PB_16_3, (hy.cell (p := ⟨w.heap.size + 1, 0, none⟩) lRB_16).trans RB_16_0, (hy.cell (p := ⟨w.heap.size + 1, 1, none⟩) lRB_16).trans RB_16_1, (hy.cell (p := ⟨w.heap.size + 1, 2, none⟩) lRB_16).trans RB_16_2, (hy.cell (p := ⟨w.heap.size + 1, 3, none⟩) lRB_16).trans RB_16_3, (hy.cell (p := ⟨w.heap.size + 1, 4, none⟩) lRB_16).trans RB_16_4, (hy.cell (p := ⟨w.heap.size + 1, 5, none⟩) lRB_16).trans RB_16_5, (hy.cell (p := ⟨w.heap.size + 1, 6, none⟩) lRB_16).trans RB_16_6, (hy.cell (p := ⟨w.heap.size + 1, 7, none⟩) lRB_16).trans RB_16_7, (hy.cell (p := ⟨w.heap.size + 1, 8, none⟩) lRB_16).trans RB_16_8, (hy.cell (p := ⟨x12.heap.size, 0, none⟩) lQB_16).trans QB_16_0, (hy.cell (p := ⟨x12.heap.size, 1, none⟩) lQB_16).trans QB_16_1⟩
  refine wp_region_held_drew (S := (fun w' => w'.cell? ⟨w.heap.size, 0, none⟩ = some (.string nm) ∧ w'.cell? ⟨w.heap.size, 1, none⟩ = some (.int .i64 s) ∧ w'.cell? ⟨w.heap.size, 2, none⟩ = some (.slice A gn gc) ∧ w'.cell? ⟨w.heap.size, 3, none⟩ = some (.slice B dn dc) ∧ w'.cell? ⟨w.heap.size + 1, 0, none⟩ = some (.slice AT tn tc) ∧ w'.cell? ⟨w.heap.size + 1, 1, none⟩ = some (.int .i64 r.a) ∧ w'.cell? ⟨w.heap.size + 1, 2, none⟩ = some (.int .i64 r.b) ∧ w'.cell? ⟨w.heap.size + 1, 3, none⟩ = some (.int .i64 r.nc) ∧ w'.cell? ⟨w.heap.size + 1, 4, none⟩ = some (.int .i64 r.dn) ∧ w'.cell? ⟨w.heap.size + 1, 5, none⟩ = some (.int .i64 r.br) ∧ w'.cell? ⟨w.heap.size + 1, 6, none⟩ = some (.int .i64 r.em) ∧ w'.cell? ⟨w.heap.size + 1, 7, none⟩ = some (.int .i64 r.pa) ∧ w'.cell? ⟨w.heap.size + 1, 8, none⟩ = some (.int .i64 r.sc) ∧ w'.cell? ⟨x12.heap.size, 0, none⟩ = some (.int .i64 lo) ∧ w'.cell? ⟨x12.heap.size, 1, none⟩ = some (.int .i64 hi))) (by kernel_rfl) (HS.out _ (Below.refl _ _).drew) (fun hHeld => ?_)
  have hT0 : Below x16.heap.size x16 x16.drew := (Below.refl _ _).drew
  generalize hdr : x16.drew = y16v0 at *
  clear hdr
  refine tkH 0 ⟨some 131, _, _, _, _, _⟩ ?_ rfl ?_ (by assumption) ?_
  rotate_left
  · (intro w hSw; (try dsimp only at hSw); go_simp; all_goals with_reducible rfl)
  try simp only [Act.put, sA, sB, sC]
  refine tkH 2 ⟨some 133, _, _, _, _, _⟩ ?_ rfl ?_ (by assumption) ?_
  rotate_left
  · (intro w hSw; (try dsimp only at hSw); go_simp; all_goals with_reducible rfl)
  try simp only [Act.put, sA, sB, sC]
  refine tkH 3 ⟨some 134, _, _, _, _, _⟩ ?_ rfl ?_ (by assumption) ?_
  rotate_left
  · (intro w hSw; (try dsimp only at hSw); go_simp; all_goals with_reducible rfl)
  try simp only [Act.put, sA, sB, sC]
  refine tkH 4 ⟨some 135, _, _, _, _, _⟩ ?_ rfl ?_ (by assumption) ?_
  rotate_left
  · (intro w hSw; (try dsimp only at hSw); go_simp; all_goals with_reducible rfl)
  try simp only [Act.put, sA, sB, sC]
  refine tkH 5 ⟨some 136, _, _, _, _, _⟩ ?_ rfl ?_ (by assumption) ?_
  rotate_left
  · (intro w hSw; (try dsimp only at hSw); go_simp; all_goals with_reducible rfl)
  try simp only [Act.put, sA, sB, sC]
  refine wpAnyH_ready (rs := [1]) (by kernel_rfl) (by simp) ?_
  refine AllReadyH.cons rfl (fun K hK => ?_) (AllReadyH.nil)
  go_simp
  refine (copyR_is T r AT tn tc _ htn ht6 (Lib.hid (hT.out.below (hB16.trans (hT0.mono hB16.size)))) CT).mono ?_
  rintro e y16v1 ⟨AT5, ct5, rfl, hst, hby16v0⟩
  have hT1 : Below x16.heap.size x16 y16v1 := hT0.trans (hby16v0.mono hT0.size)
  have HT5 := Lib.hid hst
  clear hst
  clear hby16v0
  go_wp2_with fail
  refine hK.out _ _ (HS.out _ hT1) (fun hHeld => ?_)
  clear hK K
  try simp only [Act.put, sA, sB, sC]
  refine wpAnyH_ready (rs := [6]) (by kernel_rfl) (by simp) ?_
  refine AllReadyH.cons rfl (fun K hK => ?_) (AllReadyH.nil)
  go_simp
  refine (cl_good (EscapeFrom_any T r AT5 tn ct5 s hi 0 0 0 0 _ htn htl HT5 hE1 hE2s hE3d hE3z) rfl).mono ?_
  rintro e y16v2 ⟨rfl, hby16v1⟩
  have hT2 : Below x16.heap.size x16 y16v2 := hT1.trans (hby16v1.mono hT1.size)
  replace HT5 := Lib.hid (HT5.out.below hby16v1)
  rw [hn9.out]
  clear hby16v1
  go_wp2_with fail
  refine hK.out _ _ (HS.out _ hT2) (fun hHeld => ?_)
  clear hK K
  try simp only [Act.put, sA, sB, sC]
  refine tkH 7 ⟨some 130, _, _, _, _, _⟩ ?_ rfl ?_ (by assumption) ?_
  rotate_left
  · (intro w hSw; (try dsimp only at hSw); go_simp; all_goals with_reducible rfl)
  try simp only [Act.put, sA, sB, sC]
  refine tkH 8 ⟨some 138, _, _, _, _, _⟩ ?_ rfl ?_ (by assumption) ?_
  rotate_left
  · (intro w hSw; (try dsimp only at hSw); go_simp; all_goals with_reducible rfl)
  try simp only [Act.put, sA, sB, sC]
  refine tkH 9 ⟨some 139, _, _, _, _, _⟩ ?_ rfl ?_ (by assumption) ?_
  rotate_left
  · (intro w hSw; (try dsimp only at hSw); go_simp; all_goals with_reducible rfl)
  try simp only [Act.put, sA, sB, sC]
  refine tkH 10 ⟨some 15, _, _, _, _, _⟩ ?_ rfl ?_ (by assumption) ?_
  rotate_left
  · (intro w hSw; (try dsimp only at hSw); go_simp; all_goals with_reducible rfl)
  try simp only [Act.put, sA, sB, sC]
  refine tkH 11 ⟨some 16, _, _, _, _, _⟩ ?_ rfl ?_ (by assumption) ?_
  rotate_left
  · (intro w hSw; (try dsimp only at hSw); go_simp; all_goals with_reducible rfl)
  try simp only [Act.put, sA, sB, sC]
  refine wpAnyH_done (by kernel_rfl) ?_ _
  have hc17 : Below x16.heap.size x16 y16v2 := hT2
  have hB17 : Below w.heap.size w y16v2 := hB16.trans (hc17.mono hB16.size)
  have zu17 := hB17.size
  replace HL := Lib.hid (HL.out.below hc17)
  replace HU := Lib.hid (HU.out.below hc17)
  replace PB := Lib.hid (PB.out.below hc17)
  replace RB := Lib.hid (RB.out.below hc17)
  replace QB := Lib.hid (QB.out.below hc17)
  clear PB_16_0 PB_16_1 PB_16_2 PB_16_3 lPB_16 nPB_16 mPB_16 RB_16_0 RB_16_1 RB_16_2 RB_16_3 RB_16_4 RB_16_5 RB_16_6 RB_16_7 RB_16_8 lRB_16 nRB_16 mRB_16 QB_16_0 QB_16_1 lQB_16 nQB_16 mQB_16
  clear HS hHeld hT0 hT1 hT2 hB16 zu16 hc16
  obtain ⟨PB_17_0, PB_17_1, PB_17_2, PB_17_3⟩ := b4 PB.out
  have lPB_17 := PB.out.lt
  have nPB_17 : y16v2.heap.size ≠ w.heap.size := by omega
  have mPB_17 : w.heap.size ≠ y16v2.heap.size := by omega
  obtain ⟨RB_17_0, RB_17_1, RB_17_2, RB_17_3, RB_17_4, RB_17_5, RB_17_6, RB_17_7, RB_17_8⟩ := b9 RB.out
  have lRB_17 := RB.out.lt
  have nRB_17 : y16v2.heap.size ≠ w.heap.size + 1 := by omega
  have mRB_17 : w.heap.size + 1 ≠ y16v2.heap.size := by omega
  obtain ⟨QB_17_0, QB_17_1⟩ := b2 QB.out
  have lQB_17 := QB.out.lt
  have nQB_17 : y16v2.heap.size ≠ x12.heap.size := by omega
  have mQB_17 : x12.heap.size ≠ y16v2.heap.size := by omega
  clear HT5
  have g0 := (sl_nvT HL.out hgl9 ha9.out hz9.out).1
  have g1 := sl_intA HU.out (k := gk) hgu9 hu8.out
  rw [Nat.zero_add] at g1
  have llb : lb < y16v2.heap.size := by rcases HL.out with h | ⟨b, o, e, hl, _⟩; (rw [h] at hgl9; simp at hgl9); (cases e; exact hl)
  have lub : ub < y16v2.heap.size := by rcases HU.out with h | ⟨b, o, e, hl, _⟩; (rw [h] at hgu9; simp at hgu9); (cases e; exact hl)
  go_upto_region 12 with (fail)
  have HS : Hid (∀ y, Below y16v2.heap.size y16v2 y → y.cell? ⟨w.heap.size, 0, none⟩ = some (.string nm) ∧ y.cell? ⟨w.heap.size, 1, none⟩ = some (.int .i64 s) ∧ y.cell? ⟨w.heap.size, 2, none⟩ = some (.slice A gn gc) ∧ y.cell? ⟨w.heap.size, 3, none⟩ = some (.slice B dn dc) ∧ y.cell? ⟨w.heap.size + 1, 0, none⟩ = some (.slice AT tn tc) ∧ y.cell? ⟨w.heap.size + 1, 1, none⟩ = some (.int .i64 r.a) ∧ y.cell? ⟨w.heap.size + 1, 2, none⟩ = some (.int .i64 r.b) ∧ y.cell? ⟨w.heap.size + 1, 3, none⟩ = some (.int .i64 r.nc) ∧ y.cell? ⟨w.heap.size + 1, 4, none⟩ = some (.int .i64 r.dn) ∧ y.cell? ⟨w.heap.size + 1, 5, none⟩ = some (.int .i64 r.br) ∧ y.cell? ⟨w.heap.size + 1, 6, none⟩ = some (.int .i64 r.em) ∧ y.cell? ⟨w.heap.size + 1, 7, none⟩ = some (.int .i64 r.pa) ∧ y.cell? ⟨w.heap.size + 1, 8, none⟩ = some (.int .i64 r.sc) ∧ y.cell? ⟨x12.heap.size, 0, none⟩ = some (.int .i64 lo) ∧ y.cell? ⟨x12.heap.size, 1, none⟩ = some (.int .i64 hi) ∧ y.cell? ⟨lb, gk * 2, none⟩ = some (.int .i64 a9) ∧ y.cell? ⟨ub, gk, none⟩ = some (.int .i64 u9)) := Lib.hid fun y hy => ⟨(hy.cell (p := ⟨w.heap.size, 0, none⟩) lPB_17).trans PB_17_0, (hy.cell (p := ⟨w.heap.size, 1, none⟩) lPB_17).trans PB_17_1, (hy.cell (p := ⟨w.heap.size, 2, none⟩) lPB_17).trans PB_17_2, (hy.cell (p := ⟨w.heap.size, 3, none⟩) lPB_17).trans PB_17_3, (hy.cell (p := ⟨w.heap.size + 1, 0, none⟩) lRB_17).trans RB_17_0, (hy.cell (p := ⟨w.heap.size + 1, 1, none⟩) lRB_17).trans RB_17_1, (hy.cell (p := ⟨w.heap.size + 1, 2, none⟩) lRB_17).trans RB_17_2, (hy.cell (p := ⟨w.heap.size + 1, 3, none⟩) lRB_17).trans RB_17_3, (hy.cell (p := ⟨w.heap.size + 1, 4, none⟩) lRB_17).trans RB_17_4, (hy.cell (p := ⟨w.heap.size + 1, 5, none⟩) lRB_17).trans RB_17_5, (hy.cell (p := ⟨w.heap.size + 1, 6, none⟩) lRB_17).trans RB_17_6, (hy.cell (p := ⟨w.heap.size + 1, 7, none⟩) lRB_17).trans RB_17_7, (hy.cell (p := ⟨w.heap.size + 1, 8, none⟩) lRB_17).trans RB_17_8, (hy.cell (p := ⟨x12.heap.size, 0, none⟩) lQB_17).trans QB_17_0, (hy.cell (p := ⟨x12.heap.size, 1, none⟩) lQB_17).trans QB_17_1, (hy.cell (p := ⟨lb, gk * 2, none⟩) llb).trans g0, (hy.cell (p := ⟨ub, gk, none⟩) lub).trans g1⟩
  refine wp_region_held_drew (S := (fun w' => w'.cell? ⟨w.heap.size, 0, none⟩ = some (.string nm) ∧ w'.cell? ⟨w.heap.size, 1, none⟩ = some (.int .i64 s) ∧ w'.cell? ⟨w.heap.size, 2, none⟩ = some (.slice A gn gc) ∧ w'.cell? ⟨w.heap.size, 3, none⟩ = some (.slice B dn dc) ∧ w'.cell? ⟨w.heap.size + 1, 0, none⟩ = some (.slice AT tn tc) ∧ w'.cell? ⟨w.heap.size + 1, 1, none⟩ = some (.int .i64 r.a) ∧ w'.cell? ⟨w.heap.size + 1, 2, none⟩ = some (.int .i64 r.b) ∧ w'.cell? ⟨w.heap.size + 1, 3, none⟩ = some (.int .i64 r.nc) ∧ w'.cell? ⟨w.heap.size + 1, 4, none⟩ = some (.int .i64 r.dn) ∧ w'.cell? ⟨w.heap.size + 1, 5, none⟩ = some (.int .i64 r.br) ∧ w'.cell? ⟨w.heap.size + 1, 6, none⟩ = some (.int .i64 r.em) ∧ w'.cell? ⟨w.heap.size + 1, 7, none⟩ = some (.int .i64 r.pa) ∧ w'.cell? ⟨w.heap.size + 1, 8, none⟩ = some (.int .i64 r.sc) ∧ w'.cell? ⟨x12.heap.size, 0, none⟩ = some (.int .i64 lo) ∧ w'.cell? ⟨x12.heap.size, 1, none⟩ = some (.int .i64 hi) ∧ w'.cell? ⟨lb, gk * 2, none⟩ = some (.int .i64 a9) ∧ w'.cell? ⟨ub, gk, none⟩ = some (.int .i64 u9))) (by kernel_rfl) (HS.out _ (Below.refl _ _).drew) (fun hHeld => ?_)
  have hT0 : Below y16v2.heap.size y16v2 y16v2.drew := (Below.refl _ _).drew
  generalize hdr : y16v2.drew = y17v0 at *
  clear hdr
  refine tkH 0 ⟨some 140, _, _, _, _, _⟩ ?_ rfl ?_ (by assumption) ?_
  rotate_left
  · (intro w hSw; (try dsimp only at hSw); go_simp; all_goals with_reducible rfl)
  try simp only [Act.put, sA, sB, sC]
  refine tkH 1 ⟨some 141, _, _, _, _, _⟩ ?_ rfl ?_ (by assumption) ?_
  rotate_left
  · (intro w hSw; (try dsimp only at hSw); go_simp; all_goals with_reducible rfl)
  try simp only [Act.put, sA, sB, sC]
  refine tkH 2 ⟨some 142, _, _, _, _, _⟩ ?_ rfl ?_ (by assumption) ?_
  rotate_left
  · (intro w hSw; (try dsimp only at hSw); go_simp; all_goals with_reducible rfl)
  try simp only [Act.put, sA, sB, sC]
  refine tkH 3 ⟨some 143, _, _, _, _, _⟩ ?_ rfl ?_ (by assumption) ?_
  rotate_left
  · (intro w hSw; (try dsimp only at hSw); go_simp; all_goals with_reducible rfl)
  try simp only [Act.put, sA, sB, sC]
  refine wpAnyH_ready (rs := [4]) (by kernel_rfl) (by simp) ?_
  refine AllReadyH.cons rfl (fun K hK => ?_) (AllReadyH.nil)
  go_simp
  refine (wB4 n9 0 1000000000000000 true _ hwn).mono ?_
  rintro e y17v1 ⟨rfl, hby17v0⟩
  have hT1 : Below y16v2.heap.size y16v2 y17v1 := hT0.trans (hby17v0.mono hT0.size)
  clear hby17v0
  go_wp2_with fail
  refine hK.out _ _ (HS.out _ hT1) (fun hHeld => ?_)
  clear hK K
  try simp only [Act.put, sA, sB, sC]
  refine tkH 5 ⟨some 145, _, _, _, _, _⟩ ?_ rfl ?_ (by assumption) ?_
  rotate_left
  · (intro w hSw; (try dsimp only at hSw); go_simp; all_goals with_reducible rfl)
  try simp only [Act.put, sA, sB, sC]
  refine tkH 6 ⟨some 146, _, _, _, _, _⟩ ?_ rfl ?_ (by assumption) ?_
  rotate_left
  · (intro w hSw; (try dsimp only at hSw); go_simp; all_goals with_reducible rfl)
  try simp only [Act.put, sA, sB, sC]
  refine tkH 7 ⟨some 147, _, _, _, _, _⟩ ?_ rfl ?_ (by assumption) ?_
  rotate_left
  · (intro w hSw; (try dsimp only at hSw); go_simp; all_goals with_reducible rfl)
  try simp only [Act.put, sA, sB, sC]
  refine tkH 8 ⟨some 148, _, _, _, _, _⟩ ?_ rfl ?_ (by assumption) ?_
  rotate_left
  · (intro w hSw; (try dsimp only at hSw); go_simp; all_goals with_reducible rfl)
  try simp only [Act.put, sA, sB, sC]
  refine tkH 9 ⟨some 149, _, _, _, _, _⟩ ?_ rfl ?_ (by assumption) ?_
  rotate_left
  · (intro w hSw; (try dsimp only at hSw); go_simp; all_goals with_reducible rfl)
  try simp only [Act.put, sA, sB, sC]
  refine tkH 10 ⟨some 150, _, _, _, _, _⟩ ?_ rfl ?_ (by assumption) ?_
  rotate_left
  · (intro w hSw; (try dsimp only at hSw); go_simp; all_goals with_reducible rfl)
  try simp only [Act.put, sA, sB, sC]
  refine tkH 11 ⟨some 151, _, _, _, _, _⟩ ?_ rfl ?_ (by assumption) ?_
  rotate_left
  · (intro w hSw; (try dsimp only at hSw); go_simp; all_goals with_reducible rfl)
  try simp only [Act.put, sA, sB, sC]
  refine tkH 12 ⟨some 152, _, _, _, _, _⟩ ?_ rfl ?_ (by assumption) ?_
  rotate_left
  · (intro w hSw; (try dsimp only at hSw); go_simp; all_goals with_reducible rfl)
  try simp only [Act.put, sA, sB, sC]
  refine tkH 13 ⟨some 153, _, _, _, _, _⟩ ?_ rfl ?_ (by assumption) ?_
  rotate_left
  · (intro w hSw; (try dsimp only at hSw); go_simp; all_goals with_reducible rfl)
  try simp only [Act.put, sA, sB, sC]
  refine tkH 14 ⟨some 154, _, _, _, _, _⟩ ?_ rfl ?_ (by assumption) ?_
  rotate_left
  · (intro w hSw; (try dsimp only at hSw); go_simp; all_goals with_reducible rfl)
  try simp only [Act.put, sA, sB, sC]
  refine tkH 15 ⟨some 155, _, _, _, _, _⟩ ?_ rfl ?_ (by assumption) ?_
  rotate_left
  · (intro w hSw; (try dsimp only at hSw); go_simp; all_goals with_reducible rfl)
  try simp only [Act.put, sA, sB, sC]
  refine tkH 16 ⟨some 156, _, _, _, _, _⟩ ?_ rfl ?_ (by assumption) ?_
  rotate_left
  · (intro w hSw; (try dsimp only at hSw); go_simp; all_goals with_reducible rfl)
  try simp only [Act.put, sA, sB, sC]
  refine tkH 17 ⟨some 157, _, _, _, _, _⟩ ?_ rfl ?_ (by assumption) ?_
  rotate_left
  · (intro w hSw; (try dsimp only at hSw); go_simp; all_goals with_reducible rfl)
  try simp only [Act.put, sA, sB, sC]
  refine tkH 18 ⟨some 158, _, _, _, _, _⟩ ?_ rfl ?_ (by assumption) ?_
  rotate_left
  · (intro w hSw; (try dsimp only at hSw); go_simp; all_goals with_reducible rfl)
  try simp only [Act.put, sA, sB, sC]
  refine tkH 19 ⟨some 159, _, _, _, _, _⟩ ?_ rfl ?_ (by assumption) ?_
  rotate_left
  · (intro w hSw; (try dsimp only at hSw); go_simp; all_goals with_reducible rfl)
  try simp only [Act.put, sA, sB, sC]
  refine tkH 20 ⟨some 160, _, _, _, _, _⟩ ?_ rfl ?_ (by assumption) ?_
  rotate_left
  · (intro w hSw; (try dsimp only at hSw); go_simp; all_goals with_reducible rfl)
  try simp only [Act.put, sA, sB, sC]
  refine wpAnyH_done (by kernel_rfl) ?_ _
  have hc18 : Below y16v2.heap.size y16v2 y17v1 := hT1
  have hB18 : Below w.heap.size w y17v1 := hB17.trans (hc18.mono hB17.size)
  have zu18 := hB18.size
  replace HL := Lib.hid (HL.out.below hc18)
  replace HU := Lib.hid (HU.out.below hc18)
  replace PB := Lib.hid (PB.out.below hc18)
  replace RB := Lib.hid (RB.out.below hc18)
  replace QB := Lib.hid (QB.out.below hc18)
  clear PB_17_0 PB_17_1 PB_17_2 PB_17_3 lPB_17 nPB_17 mPB_17 RB_17_0 RB_17_1 RB_17_2 RB_17_3 RB_17_4 RB_17_5 RB_17_6 RB_17_7 RB_17_8 lRB_17 nRB_17 mRB_17 QB_17_0 QB_17_1 lQB_17 nQB_17 mQB_17
  clear HS hHeld hT0 hT1 hB17 zu17 hc17
  obtain ⟨PB_18_0, PB_18_1, PB_18_2, PB_18_3⟩ := b4 PB.out
  have lPB_18 := PB.out.lt
  have nPB_18 : y17v1.heap.size ≠ w.heap.size := by omega
  have mPB_18 : w.heap.size ≠ y17v1.heap.size := by omega
  obtain ⟨RB_18_0, RB_18_1, RB_18_2, RB_18_3, RB_18_4, RB_18_5, RB_18_6, RB_18_7, RB_18_8⟩ := b9 RB.out
  have lRB_18 := RB.out.lt
  have nRB_18 : y17v1.heap.size ≠ w.heap.size + 1 := by omega
  have mRB_18 : w.heap.size + 1 ≠ y17v1.heap.size := by omega
  obtain ⟨QB_18_0, QB_18_1⟩ := b2 QB.out
  have lQB_18 := QB.out.lt
  have nQB_18 : y17v1.heap.size ≠ x12.heap.size := by omega
  have mQB_18 : x12.heap.size ≠ y17v1.heap.size := by omega
  clear g0 g1 llb lub
  go_wp2_with fail
  refine (copyP_is nm s G D A B gn gc dn dc _ hgn hdn hg6 hd6 (Lib.hid (hG.out.below (by (repeat (first | (with_reducible refine Below.drew ?_) | (with_reducible refine below_drewN ?_ _) | (with_reducible refine Below.alloc ?_ (by first | omega | (simp; done) | (simp; omega) | (simp at *; omega)) _) | (with_reducible refine Below.setCell ?_ (by first | omega | (simp; done) | (simp; omega) | (simp at *; omega)) _) | (with_reducible exact Below.refl _ _) | (with_reducible assumption) | (with_reducible refine Below.trans ?_ (Below.mono (by assumption) (by first | omega | (simp; done) | (simp; omega) | (simp at *; omega))))))))) (Lib.hid (hD.out.below (by (repeat (first | (with_reducible refine Below.drew ?_) | (with_reducible refine below_drewN ?_ _) | (with_reducible refine Below.alloc ?_ (by first | omega | (simp; done) | (simp; omega) | (simp at *; omega)) _) | (with_reducible refine Below.setCell ?_ (by first | omega | (simp; done) | (simp; omega) | (simp at *; omega)) _) | (with_reducible exact Below.refl _ _) | (with_reducible assumption) | (with_reducible refine Below.trans ?_ (Below.mono (by assumption) (by first | omega | (simp; done) | (simp; omega) | (simp at *; omega))))))))) CG CD).mono ?_
  rintro e x19 ⟨A6, ca6, B6, cb6, rfl, hsg, hsd, hna, hnb, hb19⟩
  have hc19 : Below y17v1.heap.size y17v1 x19 := hb19
  have hB19 : Below w.heap.size w x19 := hB18.trans (hc19.mono hB18.size)
  have zu19 := hB19.size
  replace HL := Lib.hid (HL.out.below hc19)
  replace HU := Lib.hid (HU.out.below hc19)
  replace PB := Lib.hid (PB.out.below hc19)
  replace RB := Lib.hid (RB.out.below hc19)
  replace QB := Lib.hid (QB.out.below hc19)
  have HG6 := Lib.hid hsg
  have HD6 := Lib.hid hsd
  clear hsg hsd hna hnb
  clear PB_18_0 PB_18_1 PB_18_2 PB_18_3 lPB_18 nPB_18 mPB_18 RB_18_0 RB_18_1 RB_18_2 RB_18_3 RB_18_4 RB_18_5 RB_18_6 RB_18_7 RB_18_8 lRB_18 nRB_18 mRB_18 QB_18_0 QB_18_1 lQB_18 nQB_18 mQB_18
  clear hb19 hB18 zu18 hc18
  obtain ⟨PB_19_0, PB_19_1, PB_19_2, PB_19_3⟩ := b4 PB.out
  have lPB_19 := PB.out.lt
  have nPB_19 : x19.heap.size ≠ w.heap.size := by omega
  have mPB_19 : w.heap.size ≠ x19.heap.size := by omega
  obtain ⟨RB_19_0, RB_19_1, RB_19_2, RB_19_3, RB_19_4, RB_19_5, RB_19_6, RB_19_7, RB_19_8⟩ := b9 RB.out
  have lRB_19 := RB.out.lt
  have nRB_19 : x19.heap.size ≠ w.heap.size + 1 := by omega
  have mRB_19 : w.heap.size + 1 ≠ x19.heap.size := by omega
  obtain ⟨QB_19_0, QB_19_1⟩ := b2 QB.out
  have lQB_19 := QB.out.lt
  have nQB_19 : x19.heap.size ≠ x12.heap.size := by omega
  have mQB_19 : x12.heap.size ≠ x19.heap.size := by omega
  obtain ⟨gb6, gf6, hA6, _, _⟩ := HG6.out.at' (k := 0) hG0
  obtain ⟨lb6, lf6, hB6e, _, _⟩ := HD6.out.at' (k := 0) hD0
  subst hA6
  subst hB6e
  go_wp2_with fail
  refine (Before_form nm s G D gb6 gf6 lb6 lf6 gn ca6 dn cb6 N kk t xa ya xb yb num den lo hi _ hz hgn hgl hdn hdl HG6 HD6 hE0 hok ht0 ht1 hk hk2 hk3 hxa hya hxb hyb a0 a1 a2 a3 ax e0 e1 f0 f1 hnum hden hlo hhi hn0 hn1 hwh).mono ?_
  rintro e x20 ⟨rfl, hb20⟩
  have hc20 : Below x19.heap.size x19 x20 := hb20
  have hB20 : Below w.heap.size w x20 := hB19.trans (hc20.mono hB19.size)
  have zu20 := hB20.size
  replace HL := Lib.hid (HL.out.below hc20)
  replace HU := Lib.hid (HU.out.below hc20)
  replace HG6 := Lib.hid (HG6.out.below hc20)
  replace HD6 := Lib.hid (HD6.out.below hc20)
  replace PB := Lib.hid (PB.out.below hc20)
  replace RB := Lib.hid (RB.out.below hc20)
  replace QB := Lib.hid (QB.out.below hc20)
  clear PB_19_0 PB_19_1 PB_19_2 PB_19_3 lPB_19 nPB_19 mPB_19 RB_19_0 RB_19_1 RB_19_2 RB_19_3 RB_19_4 RB_19_5 RB_19_6 RB_19_7 RB_19_8 lRB_19 nRB_19 mRB_19 QB_19_0 QB_19_1 lQB_19 nQB_19 mQB_19
  clear hb20 hB19 zu19 hc19
  obtain ⟨PB_20_0, PB_20_1, PB_20_2, PB_20_3⟩ := b4 PB.out
  have lPB_20 := PB.out.lt
  have nPB_20 : x20.heap.size ≠ w.heap.size := by omega
  have mPB_20 : w.heap.size ≠ x20.heap.size := by omega
  obtain ⟨RB_20_0, RB_20_1, RB_20_2, RB_20_3, RB_20_4, RB_20_5, RB_20_6, RB_20_7, RB_20_8⟩ := b9 RB.out
  have lRB_20 := RB.out.lt
  have nRB_20 : x20.heap.size ≠ w.heap.size + 1 := by omega
  have mRB_20 : w.heap.size + 1 ≠ x20.heap.size := by omega
  obtain ⟨QB_20_0, QB_20_1⟩ := b2 QB.out
  have lQB_20 := QB.out.lt
  have nQB_20 : x20.heap.size ≠ x12.heap.size := by omega
  have mQB_20 : x12.heap.size ≠ x20.heap.size := by omega
  go_wp2
  go_ret
  exact ⟨rfl, hB20.alloc hB20.size _⟩
set_option maxRecDepth 100000 in
set_option maxHeartbeats 8000000 in
theorem rt_good (nm : ByteArray) (s : Int) (G : List Ga) (D : List Le) (A B : Option Addr) (gn gc dn dc : Nat) (T : List Ox) (r : Ru) (AT : Option Addr) (tn tc : Nat) (t : Int) (sb : Bool) (N : Nat) (S : Int) (gF : Nat → Nat) (vF sF : Nat → Int) (NN gk : Nat) (l9 : List (Int × Int)) (U9 : List Int) (a9 z9 u9 n9 d9 : Int) (kk : Nat) (xa ya xb yb num den lo hi : Int) (nb : Nat) (DB : List Le) (gH : Nat → Nat) (vH sH : Nat → Int) (MM : Nat) (m9 : List (Int × Int)) (w : World) (hz : nm.size ≤ 9223372036854775807) (hgn : Hid (gn = G.length)) (hgl : gn ≤ 9223372036854775807) (hdn : Hid (dn = D.length)) (hdl : dn ≤ 9223372036854775807) (hG : Hid (SlRows gaV 2 w A G)) (hD : Hid (SlRows leV 3 w B D)) (CG : Hid (A = none → gn = 0 ∧ gc = 0)) (CD : Hid (B = none → dn = 0 ∧ dc = 0)) (htn : Hid (tn = T.length)) (htl : tn ≤ 9223372036854775807) (hT : Hid (SlRows oxV 2 w AT T)) (CT : Hid (AT = none → tn = 0 ∧ tc = 0)) (hS1 : Hid (shortB nm.size dn gn = true)) (hS : Hid (shortB nm.size dn gn = sb)) (hE0 : Hid (plnP nm s G D = (N, 0))) (hb : Hid (briefV sb 0 (secT D dn) = true)) (hF : Hid (fewB tn = true)) (hE1 : Hid (ruE T r = 0)) (hEB : Hid (firE [0, 0] = 0)) (hok : Hid (PlnOk nm s G D)) (hSS : Hid (secT D dn = S)) (hS4 : Hid (S ≤ 400)) (hd0 : 0 < dn) (hin : Hid (inB t 0 S = true)) (hG0 : 0 < G.length) (hD0 : 0 < D.length) (hg8 : gn ≤ 8) (hE : Hid (firE [0, 0, if 20000 < secT D dn then (8 : Int) else 0] = 0)) (hF9 : Hid (∀ i : Nat, gF i = ndG s G D (0 + (i : Int)) ∧ vF i = ndV r s G D (0 + (i : Int)) ∧ sF i = 0 + (i : Int))) (hNN : Hid (ndN D 0 = NN)) (hl9 : Hid (rvG rvS gF vF sF gn NN = l9)) (hll : Hid (l9.length = gn)) (hgk : gk < gn) (hk : kk < dn) (hg : Hid ((D[kk]'(by have := hdn.out; omega)).g = (gk : Int))) (hEb : Hid (rngE r.br 1 100000 = 0)) (hF2 : Hid ((if 20000 < secT D dn then (8 : Int) else 0) = 0)) (hF3 : Hid (rngE t 0 (secT D dn) = 0)) (hE4 : Hid (firE [0, 0, 0, 0] = 0)) (hu9 : Hid (conT r.br t (legK s G D) gn (List.range dn) = U9)) (hun : Hid (gn = U9.length)) (hub : Hid (∀ j (hj : j < U9.length), 0 ≤ U9[j] ∧ U9[j] ≤ 1000000000000000)) (hwg : Hid (inB (gk : Int) 0 ((gn : Int) - 1) = true)) (hE2s : Hid (rngE s 400 1100 = 0)) (hE3d : Hid (rngE hi 0 30000 = 0)) (hE3z : Hid (firE [0, 0, 0] = 0)) (hn9 : Hid (escV r s hi = n9)) (hwn : Hid (inB n9 0 1000000000000000 = true)) (hgl9 : gk < l9.length) (hgu9 : gk < U9.length) (ha9 : Hid ((l9.getD gk (0, -1)).1 = a9)) (hz9 : Hid ((l9.getD gk (0, -1)).2 = z9)) (hu8 : Hid (U9[gk] = u9)) (hab : Hid (0 ≤ a9 ∧ a9 ≤ 4000000000000000000)) (hub9 : Hid (0 ≤ u9 ∧ u9 ≤ 1000000000000000)) (hd9 : Hid (a9 - u9 = d9)) (hdn8 : Hid (n9 ≤ d9)) (ht0 : 0 ≤ t) (ht1 : t ≤ secT D dn) (hk2 : Hid (∀ j, j < kk → secT D (j + 1) < t)) (hk3 : Hid (t ≤ secT D (kk + 1))) (hxa : Hid (((ptL D (dn + 1)).getD kk default).s = xa)) (hya : Hid (((ptL D (dn + 1)).getD kk default).d = ya)) (hxb : Hid (((ptL D (dn + 1)).getD (kk + 1) default).s = xb)) (hyb : Hid (((ptL D (dn + 1)).getD (kk + 1) default).d = yb)) (a0 : 0 ≤ xa) (a1 : xa ≤ t) (a2 : t ≤ xb) (a3 : xb ≤ 1000000) (ax : xa < xb) (e0 : 0 ≤ ya) (e1 : ya ≤ 30000) (f0 : 0 ≤ yb) (f1 : yb ≤ 30000) (hnum : Hid (ya * (xb - t) + yb * (t - xa) = num)) (hden : Hid (xb - xa = den)) (hlo : Hid (num / den = lo)) (hhi : Hid (upE num den = hi)) (hn0 : 0 ≤ num) (hn1 : num ≤ 60000000000) (hwh : Hid (decide (num % den = 0) = true)) (hnb : Hid (nb = DB.length)) (hnd : nb ≤ dn) (hbeg : Hid (∀ k, k < nb → secT D k < t)) (hend : Hid (nb < dn → t ≤ secT D nb)) (hcut : Hid (∀ k, k < nb → t < secT D (k + 1) → DB.getD k default = ⟨t - secT D k, lo, (D.getD k default).g⟩)) (hfull : Hid (∀ k, k < nb → secT D (k + 1) ≤ t → DB.getD k default = D.getD k default)) (hnl : nb ≤ 9223372036854775807) (hE90 : Hid (plnP nm s G DB = (0, 0))) (hE9x : Hid (firE [0, 0, if 20000 < secT DB nb then (8 : Int) else 0] = 0)) (hFH : Hid (∀ i : Nat, gH i = ndG s G DB (0 + (i : Int)) ∧ vH i = ndV r s G DB (0 + (i : Int)) ∧ sH i = 0 + (i : Int))) (hMM : Hid (ndN DB 0 = MM)) (hm9 : Hid (rvG rvS gH vH sH gn MM = m9)) (hml : Hid (m9.length = gn)) (hle : Hid (∀ g, g < gn → (m9.getD g (0, -1)).1 ≤ (l9.getD g (0, -1)).1)) :
    Calls Try.prog 3 #[.agg #[.string nm, .int .i64 s, .slice A gn gc, .slice B dn dc], .agg #[.slice AT tn tc, .int .i64 r.a, .int .i64 r.b, .int .i64 r.nc, .int .i64 r.dn, .int .i64 r.br, .int .i64 r.em, .int .i64 r.pa, .int .i64 r.sc], .int .i64 t] w fun e w' => e = .returned (.bool true) ∧ Below w.heap.size w w' := by
  have hd1 : ¬ (dn : Int) = 0 := by omega
  have hd2 : ((dn : Int) == 0) = false := by simpa using hd1
  have hd3 : (dn == 0) = false := by simp; omega
  have h4 : ¬ 400 < S := by have := hS4.out; omega
  have wg1 : IntKind.i64.wrap ((gn : Int) - 1) = (gn : Int) - 1 := IntWalk.i64_in _ (by omega)
  have wau : IntKind.i64.wrap (a9 - u9) = d9 := by rw [IntWalk.i64_in _ (by have := hab.out; have := hub9.out; omega)]; exact hd9.out
  have hdn9 : ¬ d9 < n9 := by have := hdn8.out; omega
  have q0 : ¬ (gk : Int) < 0 := by omega
  have q1 : (gk : Int) < (gn : Int) := by omega
  have hsb := shortB_le hS1.out
  have hz6 : nm.size ≤ 1000000 := by omega
  have hg6 : gn ≤ 1000000 := by omega
  have hd6 : dn ≤ 1000000 := by omega
  have ht22 : tn ≤ 22 := fewB_le hF.out
  have ht6 : tn ≤ 1000000 := by omega
  go_enter Try.func3, Try.ntmps3
  go_wp2_with fail
  refine (exposed_any _).mono ?_
  rintro e x1 ⟨rfl, hb1⟩
  have hc1 : Below w.heap.size w x1 := (((Below.refl _ _).alloc (by first | exact Nat.le_refl _ | (simp; done) | (simp; omega)) _).alloc (by first | exact Nat.le_refl _ | (simp; done) | (simp; omega)) _).trans (hb1.mono (by first | exact Nat.le_refl _ | (simp; done) | (simp; omega)))
  have hB1 : Below w.heap.size w x1 := hc1
  have zu1 := hB1.size
  have PB : Hid (BlkF x1 w.heap.size (w.heap.size) [.string nm, .int .i64 s, .slice A gn gc, .slice B dn dc]) := Lib.hid (((BlkF.made (B := w.heap.size) w [.string nm, .int .i64 s, .slice A gn gc, .slice B dn dc] 25 (by first | exact Nat.le_refl _ | (simp; done) | (simp; omega))).below ((Below.refl _ _).alloc (Nat.le_refl _) _)).below hb1)
  have zPB1 := PB.out.lt
  have RB : Hid (BlkF x1 w.heap.size (w.heap.size + 1) [.slice AT tn tc, .int .i64 r.a, .int .i64 r.b, .int .i64 r.nc, .int .i64 r.dn, .int .i64 r.br, .int .i64 r.em, .int .i64 r.pa, .int .i64 r.sc]) := Lib.hid (by have := (BlkF.made (B := w.heap.size) (w.alloc (.cells #[.string nm, .int .i64 s, .slice A gn gc, .slice B dn dc] 25)) [.slice AT tn tc, .int .i64 r.a, .int .i64 r.b, .int .i64 r.nc, .int .i64 r.dn, .int .i64 r.br, .int .i64 r.em, .int .i64 r.pa, .int .i64 r.sc] 30 (by first | exact Nat.le_refl _ | (simp; done) | (simp; omega))).below hb1; simpa using this)
  have zRB1 := RB.out.lt
  clear hb1
  obtain ⟨PB_1_0, PB_1_1, PB_1_2, PB_1_3⟩ := b4 PB.out
  have lPB_1 := PB.out.lt
  have nPB_1 : x1.heap.size ≠ w.heap.size := by omega
  have mPB_1 : w.heap.size ≠ x1.heap.size := by omega
  obtain ⟨RB_1_0, RB_1_1, RB_1_2, RB_1_3, RB_1_4, RB_1_5, RB_1_6, RB_1_7, RB_1_8⟩ := b9 RB.out
  have lRB_1 := RB.out.lt
  have nRB_1 : x1.heap.size ≠ w.heap.size + 1 := by omega
  have mRB_1 : w.heap.size + 1 ≠ x1.heap.size := by omega
  go_wp2_with fail
  refine (Brief_is nm s G D A B gn gc dn dc sb true N 0 _ hz hgn hgl hdn hdl (Lib.hid (hG.out.below (by (repeat (first | (with_reducible refine Below.drew ?_) | (with_reducible refine below_drewN ?_ _) | (with_reducible refine Below.alloc ?_ (by first | omega | (simp; done) | (simp; omega) | (simp at *; omega)) _) | (with_reducible refine Below.setCell ?_ (by first | omega | (simp; done) | (simp; omega) | (simp at *; omega)) _) | (with_reducible exact Below.refl _ _) | (with_reducible assumption) | (with_reducible refine Below.trans ?_ (Below.mono (by assumption) (by first | omega | (simp; done) | (simp; omega) | (simp at *; omega))))))))) (Lib.hid (hD.out.below (by (repeat (first | (with_reducible refine Below.drew ?_) | (with_reducible refine below_drewN ?_ _) | (with_reducible refine Below.alloc ?_ (by first | omega | (simp; done) | (simp; omega) | (simp at *; omega)) _) | (with_reducible refine Below.setCell ?_ (by first | omega | (simp; done) | (simp; omega) | (simp at *; omega)) _) | (with_reducible exact Below.refl _ _) | (with_reducible assumption) | (with_reducible refine Below.trans ?_ (Below.mono (by assumption) (by first | omega | (simp; done) | (simp; omega) | (simp at *; omega))))))))) hS hE0 hb).mono ?_
  rintro e x2 ⟨rfl, hb2⟩
  have hc2 : Below x1.heap.size x1 x2 := hb2
  have hB2 : Below w.heap.size w x2 := hB1.trans (hc2.mono hB1.size)
  have zu2 := hB2.size
  replace PB := Lib.hid (PB.out.below hc2)
  replace RB := Lib.hid (RB.out.below hc2)
  clear PB_1_0 PB_1_1 PB_1_2 PB_1_3 lPB_1 nPB_1 mPB_1 RB_1_0 RB_1_1 RB_1_2 RB_1_3 RB_1_4 RB_1_5 RB_1_6 RB_1_7 RB_1_8 lRB_1 nRB_1 mRB_1
  clear hb2 hB1 zu1 hc1
  obtain ⟨PB_2_0, PB_2_1, PB_2_2, PB_2_3⟩ := b4 PB.out
  have lPB_2 := PB.out.lt
  have nPB_2 : x2.heap.size ≠ w.heap.size := by omega
  have mPB_2 : w.heap.size ≠ x2.heap.size := by omega
  obtain ⟨RB_2_0, RB_2_1, RB_2_2, RB_2_3, RB_2_4, RB_2_5, RB_2_6, RB_2_7, RB_2_8⟩ := b9 RB.out
  have lRB_2 := RB.out.lt
  have nRB_2 : x2.heap.size ≠ w.heap.size + 1 := by omega
  have mRB_2 : w.heap.size + 1 ≠ x2.heap.size := by omega
  go_wp2_with fail
  refine (FewT_is r AT tn tc true _ htl hF).mono ?_
  rintro e x3 ⟨rfl, hb3⟩
  have hc3 : Below x2.heap.size x2 x3 := hb3
  have hB3 : Below w.heap.size w x3 := hB2.trans (hc3.mono hB2.size)
  have zu3 := hB3.size
  replace PB := Lib.hid (PB.out.below hc3)
  replace RB := Lib.hid (RB.out.below hc3)
  clear PB_2_0 PB_2_1 PB_2_2 PB_2_3 lPB_2 nPB_2 mPB_2 RB_2_0 RB_2_1 RB_2_2 RB_2_3 RB_2_4 RB_2_5 RB_2_6 RB_2_7 RB_2_8 lRB_2 nRB_2 mRB_2
  clear hb3 hB2 zu2 hc2
  obtain ⟨PB_3_0, PB_3_1, PB_3_2, PB_3_3⟩ := b4 PB.out
  have lPB_3 := PB.out.lt
  have nPB_3 : x3.heap.size ≠ w.heap.size := by omega
  have mPB_3 : w.heap.size ≠ x3.heap.size := by omega
  obtain ⟨RB_3_0, RB_3_1, RB_3_2, RB_3_3, RB_3_4, RB_3_5, RB_3_6, RB_3_7, RB_3_8⟩ := b9 RB.out
  have lRB_3 := RB.out.lt
  have nRB_3 : x3.heap.size ≠ w.heap.size + 1 := by omega
  have mRB_3 : w.heap.size + 1 ≠ x3.heap.size := by omega
  go_wp2_with fail
  refine (refBoth_any nm s G D A B gn gc dn dc T r AT tn tc N 0 0 0 _ hz6 hgn hgl hdn hdl (Lib.hid (hG.out.below (by (repeat (first | (with_reducible refine Below.drew ?_) | (with_reducible refine below_drewN ?_ _) | (with_reducible refine Below.alloc ?_ (by first | omega | (simp; done) | (simp; omega) | (simp at *; omega)) _) | (with_reducible refine Below.setCell ?_ (by first | omega | (simp; done) | (simp; omega) | (simp at *; omega)) _) | (with_reducible exact Below.refl _ _) | (with_reducible assumption) | (with_reducible refine Below.trans ?_ (Below.mono (by assumption) (by first | omega | (simp; done) | (simp; omega) | (simp at *; omega))))))))) (Lib.hid (hD.out.below (by (repeat (first | (with_reducible refine Below.drew ?_) | (with_reducible refine below_drewN ?_ _) | (with_reducible refine Below.alloc ?_ (by first | omega | (simp; done) | (simp; omega) | (simp at *; omega)) _) | (with_reducible refine Below.setCell ?_ (by first | omega | (simp; done) | (simp; omega) | (simp at *; omega)) _) | (with_reducible exact Below.refl _ _) | (with_reducible assumption) | (with_reducible refine Below.trans ?_ (Below.mono (by assumption) (by first | omega | (simp; done) | (simp; omega) | (simp at *; omega))))))))) hE0 htn htl (Lib.hid (hT.out.below (by (repeat (first | (with_reducible refine Below.drew ?_) | (with_reducible refine below_drewN ?_ _) | (with_reducible refine Below.alloc ?_ (by first | omega | (simp; done) | (simp; omega) | (simp at *; omega)) _) | (with_reducible refine Below.setCell ?_ (by first | omega | (simp; done) | (simp; omega) | (simp at *; omega)) _) | (with_reducible exact Below.refl _ _) | (with_reducible assumption) | (with_reducible refine Below.trans ?_ (Below.mono (by assumption) (by first | omega | (simp; done) | (simp; omega) | (simp at *; omega))))))))) hE1 hEB).mono ?_
  rintro e x4 ⟨rfl, hb4⟩
  have hc4 : Below x3.heap.size x3 x4 := hb4
  have hB4 : Below w.heap.size w x4 := hB3.trans (hc4.mono hB3.size)
  have zu4 := hB4.size
  replace PB := Lib.hid (PB.out.below hc4)
  replace RB := Lib.hid (RB.out.below hc4)
  clear PB_3_0 PB_3_1 PB_3_2 PB_3_3 lPB_3 nPB_3 mPB_3 RB_3_0 RB_3_1 RB_3_2 RB_3_3 RB_3_4 RB_3_5 RB_3_6 RB_3_7 RB_3_8 lRB_3 nRB_3 mRB_3
  clear hb4 hB3 zu3 hc3
  obtain ⟨PB_4_0, PB_4_1, PB_4_2, PB_4_3⟩ := b4 PB.out
  have lPB_4 := PB.out.lt
  have nPB_4 : x4.heap.size ≠ w.heap.size := by omega
  have mPB_4 : w.heap.size ≠ x4.heap.size := by omega
  obtain ⟨RB_4_0, RB_4_1, RB_4_2, RB_4_3, RB_4_4, RB_4_5, RB_4_6, RB_4_7, RB_4_8⟩ := b9 RB.out
  have lRB_4 := RB.out.lt
  have nRB_4 : x4.heap.size ≠ w.heap.size + 1 := by omega
  have mRB_4 : w.heap.size + 1 ≠ x4.heap.size := by omega
  go_wp2_with fail
  refine (refSeconds_is nm s G D A B gn gc dn dc S _ hgn hdn hok (Lib.hid (hG.out.below (by (repeat (first | (with_reducible refine Below.drew ?_) | (with_reducible refine below_drewN ?_ _) | (with_reducible refine Below.alloc ?_ (by first | omega | (simp; done) | (simp; omega) | (simp at *; omega)) _) | (with_reducible refine Below.setCell ?_ (by first | omega | (simp; done) | (simp; omega) | (simp at *; omega)) _) | (with_reducible exact Below.refl _ _) | (with_reducible assumption) | (with_reducible refine Below.trans ?_ (Below.mono (by assumption) (by first | omega | (simp; done) | (simp; omega) | (simp at *; omega))))))))) (Lib.hid (hD.out.below (by (repeat (first | (with_reducible refine Below.drew ?_) | (with_reducible refine below_drewN ?_ _) | (with_reducible refine Below.alloc ?_ (by first | omega | (simp; done) | (simp; omega) | (simp at *; omega)) _) | (with_reducible refine Below.setCell ?_ (by first | omega | (simp; done) | (simp; omega) | (simp at *; omega)) _) | (with_reducible exact Below.refl _ _) | (with_reducible assumption) | (with_reducible refine Below.trans ?_ (Below.mono (by assumption) (by first | omega | (simp; done) | (simp; omega) | (simp at *; omega))))))))) hSS).mono ?_
  rintro e x5 ⟨rfl, hb5⟩
  have hc5 : Below x4.heap.size x4 x5 := hb5
  have hB5 : Below w.heap.size w x5 := hB4.trans (hc5.mono hB4.size)
  have zu5 := hB5.size
  replace PB := Lib.hid (PB.out.below hc5)
  replace RB := Lib.hid (RB.out.below hc5)
  clear PB_4_0 PB_4_1 PB_4_2 PB_4_3 lPB_4 nPB_4 mPB_4 RB_4_0 RB_4_1 RB_4_2 RB_4_3 RB_4_4 RB_4_5 RB_4_6 RB_4_7 RB_4_8 lRB_4 nRB_4 mRB_4
  clear hb5 hB4 zu4 hc4
  obtain ⟨PB_5_0, PB_5_1, PB_5_2, PB_5_3⟩ := b4 PB.out
  have lPB_5 := PB.out.lt
  have nPB_5 : x5.heap.size ≠ w.heap.size := by omega
  have mPB_5 : w.heap.size ≠ x5.heap.size := by omega
  obtain ⟨RB_5_0, RB_5_1, RB_5_2, RB_5_3, RB_5_4, RB_5_5, RB_5_6, RB_5_7, RB_5_8⟩ := b9 RB.out
  have lRB_5 := RB.out.lt
  have nRB_5 : x5.heap.size ≠ w.heap.size + 1 := by omega
  have mRB_5 : w.heap.size + 1 ≠ x5.heap.size := by omega
  go_wp2_with fail
  refine (refSeconds_is nm s G D A B gn gc dn dc S _ hgn hdn hok (Lib.hid (hG.out.below (by (repeat (first | (with_reducible refine Below.drew ?_) | (with_reducible refine below_drewN ?_ _) | (with_reducible refine Below.alloc ?_ (by first | omega | (simp; done) | (simp; omega) | (simp at *; omega)) _) | (with_reducible refine Below.setCell ?_ (by first | omega | (simp; done) | (simp; omega) | (simp at *; omega)) _) | (with_reducible exact Below.refl _ _) | (with_reducible assumption) | (with_reducible refine Below.trans ?_ (Below.mono (by assumption) (by first | omega | (simp; done) | (simp; omega) | (simp at *; omega))))))))) (Lib.hid (hD.out.below (by (repeat (first | (with_reducible refine Below.drew ?_) | (with_reducible refine below_drewN ?_ _) | (with_reducible refine Below.alloc ?_ (by first | omega | (simp; done) | (simp; omega) | (simp at *; omega)) _) | (with_reducible refine Below.setCell ?_ (by first | omega | (simp; done) | (simp; omega) | (simp at *; omega)) _) | (with_reducible exact Below.refl _ _) | (with_reducible assumption) | (with_reducible refine Below.trans ?_ (Below.mono (by assumption) (by first | omega | (simp; done) | (simp; omega) | (simp at *; omega))))))))) hSS).mono ?_
  rintro e x6 ⟨rfl, hb6⟩
  have hc6 : Below x5.heap.size x5 x6 := hb6
  have hB6 : Below w.heap.size w x6 := hB5.trans (hc6.mono hB5.size)
  have zu6 := hB6.size
  replace PB := Lib.hid (PB.out.below hc6)
  replace RB := Lib.hid (RB.out.below hc6)
  clear PB_5_0 PB_5_1 PB_5_2 PB_5_3 lPB_5 nPB_5 mPB_5 RB_5_0 RB_5_1 RB_5_2 RB_5_3 RB_5_4 RB_5_5 RB_5_6 RB_5_7 RB_5_8 lRB_5 nRB_5 mRB_5
  clear hb6 hB5 zu5 hc5
  obtain ⟨PB_6_0, PB_6_1, PB_6_2, PB_6_3⟩ := b4 PB.out
  have lPB_6 := PB.out.lt
  have nPB_6 : x6.heap.size ≠ w.heap.size := by omega
  have mPB_6 : w.heap.size ≠ x6.heap.size := by omega
  obtain ⟨RB_6_0, RB_6_1, RB_6_2, RB_6_3, RB_6_4, RB_6_5, RB_6_6, RB_6_7, RB_6_8⟩ := b9 RB.out
  have lRB_6 := RB.out.lt
  have nRB_6 : x6.heap.size ≠ w.heap.size + 1 := by omega
  have mRB_6 : w.heap.size + 1 ≠ x6.heap.size := by omega
  go_wp2_with fail
  refine (wB4 t 0 S true _ hin).mono ?_
  rintro e x7 ⟨rfl, hb7⟩
  have hc7 : Below x6.heap.size x6 x7 := hb7
  have hB7 : Below w.heap.size w x7 := hB6.trans (hc7.mono hB6.size)
  have zu7 := hB7.size
  replace PB := Lib.hid (PB.out.below hc7)
  replace RB := Lib.hid (RB.out.below hc7)
  clear PB_6_0 PB_6_1 PB_6_2 PB_6_3 lPB_6 nPB_6 mPB_6 RB_6_0 RB_6_1 RB_6_2 RB_6_3 RB_6_4 RB_6_5 RB_6_6 RB_6_7 RB_6_8 lRB_6 nRB_6 mRB_6
  clear hb7 hB6 zu6 hc6
  obtain ⟨PB_7_0, PB_7_1, PB_7_2, PB_7_3⟩ := b4 PB.out
  have lPB_7 := PB.out.lt
  have nPB_7 : x7.heap.size ≠ w.heap.size := by omega
  have mPB_7 : w.heap.size ≠ x7.heap.size := by omega
  obtain ⟨RB_7_0, RB_7_1, RB_7_2, RB_7_3, RB_7_4, RB_7_5, RB_7_6, RB_7_7, RB_7_8⟩ := b9 RB.out
  have lRB_7 := RB.out.lt
  have nRB_7 : x7.heap.size ≠ w.heap.size + 1 := by omega
  have mRB_7 : w.heap.size + 1 ≠ x7.heap.size := by omega
  go_upto_region 5 with (fail)
  have HS : Hid (∀ y, Below x7.heap.size x7 y → y.cell? ⟨w.heap.size, 0, none⟩ = some (.string nm) ∧ y.cell? ⟨w.heap.size, 1, none⟩ = some (.int .i64 s) ∧ y.cell? ⟨w.heap.size, 2, none⟩ = some (.slice A gn gc) ∧ y.cell? ⟨w.heap.size, 3, none⟩ = some (.slice B dn dc) ∧ y.cell? ⟨w.heap.size + 1, 0, none⟩ = some (.slice AT tn tc) ∧ y.cell? ⟨w.heap.size + 1, 1, none⟩ = some (.int .i64 r.a) ∧ y.cell? ⟨w.heap.size + 1, 2, none⟩ = some (.int .i64 r.b) ∧ y.cell? ⟨w.heap.size + 1, 3, none⟩ = some (.int .i64 r.nc) ∧ y.cell? ⟨w.heap.size + 1, 4, none⟩ = some (.int .i64 r.dn) ∧ y.cell? ⟨w.heap.size + 1, 5, none⟩ = some (.int .i64 r.br) ∧ y.cell? ⟨w.heap.size + 1, 6, none⟩ = some (.int .i64 r.em) ∧ y.cell? ⟨w.heap.size + 1, 7, none⟩ = some (.int .i64 r.pa) ∧ y.cell? ⟨w.heap.size + 1, 8, none⟩ = some (.int .i64 r.sc)) := Lib.hid fun y hy => ⟨(hy.cell (p := ⟨w.heap.size, 0, none⟩) lPB_7).trans PB_7_0, (hy.cell (p := ⟨w.heap.size, 1, none⟩) lPB_7).trans PB_7_1, (hy.cell (p := ⟨w.heap.size, 2, none⟩) lPB_7).trans PB_7_2, (hy.cell (p := ⟨w.heap.size, 3, none⟩) lPB_7).trans PB_7_3, (hy.cell (p := ⟨w.heap.size + 1, 0, none⟩) lRB_7).trans RB_7_0, (hy.cell (p := ⟨w.heap.size + 1, 1, none⟩) lRB_7).trans RB_7_1, (hy.cell (p := ⟨w.heap.size + 1, 2, none⟩) lRB_7).trans RB_7_2, (hy.cell (p := ⟨w.heap.size + 1, 3, none⟩) lRB_7).trans RB_7_3, (hy.cell (p := ⟨w.heap.size + 1, 4, none⟩) lRB_7).trans RB_7_4, (hy.cell (p := ⟨w.heap.size + 1, 5, none⟩) lRB_7).trans RB_7_5, (hy.cell (p := ⟨w.heap.size + 1, 6, none⟩) lRB_7).trans RB_7_6, (hy.cell (p := ⟨w.heap.size + 1, 7, none⟩) lRB_7).trans RB_7_7, (hy.cell (p := ⟨w.heap.size + 1, 8, none⟩) lRB_7).trans RB_7_8⟩
  refine wp_region_held_drew (S := (fun w' => w'.cell? ⟨w.heap.size, 0, none⟩ = some (.string nm) ∧ w'.cell? ⟨w.heap.size, 1, none⟩ = some (.int .i64 s) ∧ w'.cell? ⟨w.heap.size, 2, none⟩ = some (.slice A gn gc) ∧ w'.cell? ⟨w.heap.size, 3, none⟩ = some (.slice B dn dc) ∧ w'.cell? ⟨w.heap.size + 1, 0, none⟩ = some (.slice AT tn tc) ∧ w'.cell? ⟨w.heap.size + 1, 1, none⟩ = some (.int .i64 r.a) ∧ w'.cell? ⟨w.heap.size + 1, 2, none⟩ = some (.int .i64 r.b) ∧ w'.cell? ⟨w.heap.size + 1, 3, none⟩ = some (.int .i64 r.nc) ∧ w'.cell? ⟨w.heap.size + 1, 4, none⟩ = some (.int .i64 r.dn) ∧ w'.cell? ⟨w.heap.size + 1, 5, none⟩ = some (.int .i64 r.br) ∧ w'.cell? ⟨w.heap.size + 1, 6, none⟩ = some (.int .i64 r.em) ∧ w'.cell? ⟨w.heap.size + 1, 7, none⟩ = some (.int .i64 r.pa) ∧ w'.cell? ⟨w.heap.size + 1, 8, none⟩ = some (.int .i64 r.sc))) (by kernel_rfl) (HS.out _ (Below.refl _ _).drew) (fun hHeld => ?_)
  have hT0 : Below x7.heap.size x7 x7.drew := (Below.refl _ _).drew
  generalize hdr : x7.drew = y7v0 at *
  clear hdr
  refine tkH 0 ⟨some 57, _, _, _, _, _⟩ ?_ rfl ?_ (by assumption) ?_
  rotate_left
  · (intro w hSw; (try dsimp only at hSw); go_simp; all_goals with_reducible rfl)
  try simp only [Act.put, sA, sB, sC]
  refine tkH 2 ⟨some 59, _, _, _, _, _⟩ ?_ rfl ?_ (by assumption) ?_
  rotate_left
  · (intro w hSw; (try dsimp only at hSw); go_simp; all_goals with_reducible rfl)
  try simp only [Act.put, sA, sB, sC]
  refine wpAnyH_ready (rs := [1]) (by kernel_rfl) (by simp) ?_
  refine AllReadyH.cons rfl (fun K hK => ?_) (AllReadyH.nil)
  go_simp
  refine (copyP_is nm s G D A B gn gc dn dc _ hgn hdn hg6 hd6 (Lib.hid (hG.out.below (hB7.trans (hT0.mono hB7.size)))) (Lib.hid (hD.out.below (hB7.trans (hT0.mono hB7.size)))) CG CD).mono ?_
  rintro e y7v1 ⟨A1, ca1, B1, cb1, rfl, hsg, hsd, hna, hnb, hby7v0⟩
  have hT1 : Below x7.heap.size x7 y7v1 := hT0.trans (hby7v0.mono hT0.size)
  have HG1 := Lib.hid hsg
  have HD1 := Lib.hid hsd
  clear hsg hsd hna hnb
  clear hby7v0
  go_wp2_with fail
  refine hK.out _ _ (HS.out _ hT1) (fun hHeld => ?_)
  clear hK K
  try simp only [Act.put, sA, sB, sC]
  refine wpAnyH_ready (rs := [3]) (by kernel_rfl) (by simp) ?_
  refine AllReadyH.cons rfl (fun K hK => ?_) (AllReadyH.nil)
  go_simp
  refine (copyR_is T r AT tn tc _ htn ht6 (Lib.hid (hT.out.below (hB7.trans (hT1.mono hB7.size)))) CT).mono ?_
  rintro e y7v2 ⟨AT1, ct1, rfl, hst, hby7v1⟩
  have hT2 : Below x7.heap.size x7 y7v2 := hT1.trans (hby7v1.mono hT1.size)
  replace HG1 := Lib.hid (HG1.out.below hby7v1)
  replace HD1 := Lib.hid (HD1.out.below hby7v1)
  have HT1 := Lib.hid hst
  clear hst
  clear hby7v1
  go_wp2_with fail
  refine hK.out _ _ (HS.out _ hT2) (fun hHeld => ?_)
  clear hK K
  try simp only [Act.put, sA, sB, sC]
  refine wpAnyH_ready (rs := [4]) (by kernel_rfl) (by simp) ?_
  refine AllReadyH.cons rfl (fun K hK => ?_) (AllReadyH.nil)
  go_simp
  refine (cl_good (Reserves_any nm s G D A1 B1 gn ca1 dn cb1 T r AT1 tn ct1 gF vF sF NN N 0 0 0 _ hz hgn hgl hdn hdl HG1 HD1 htn htl HT1 hE0 hE1 hE hF9 hNN) rfl).mono ?_
  rintro e y7v3 ⟨lb, cl, rfl, hsl, hlge, hby7v2⟩
  have hT3 : Below x7.heap.size x7 y7v3 := hT2.trans (hby7v2.mono hT2.size)
  replace HG1 := Lib.hid (HG1.out.below hby7v2)
  replace HD1 := Lib.hid (HD1.out.below hby7v2)
  replace HT1 := Lib.hid (HT1.out.below hby7v2)
  rw [hl9.out] at hsl
  have HL := Lib.hid hsl
  clear hsl hlge
  clear hby7v2
  go_wp2_with fail
  refine hK.out _ _ (HS.out _ hT3) (fun hHeld => ?_)
  clear hK K
  try simp only [Act.put, sA, sB, sC]
  refine tkH 5 ⟨some 56, _, _, _, _, _⟩ ?_ rfl ?_ (by assumption) ?_
  rotate_left
  · (intro w hSw; (try dsimp only at hSw); go_simp; all_goals with_reducible rfl)
  try simp only [Act.put, sA, sB, sC]
  refine tkH 6 ⟨some 62, _, _, _, _, _⟩ ?_ rfl ?_ (by assumption) ?_
  rotate_left
  · (intro w hSw; (try dsimp only at hSw); go_simp; all_goals with_reducible rfl)
  try simp only [Act.put, sA, sB, sC]
  refine tkH 7 ⟨some 63, _, _, _, _, _⟩ ?_ rfl ?_ (by assumption) ?_
  rotate_left
  · (intro w hSw; (try dsimp only at hSw); go_simp; all_goals with_reducible rfl)
  try simp only [Act.put, sA, sB, sC]
  refine tkH 8 ⟨some 7, _, _, _, _, _⟩ ?_ rfl ?_ (by assumption) ?_
  rotate_left
  · (intro w hSw; (try dsimp only at hSw); go_simp; all_goals with_reducible rfl)
  try simp only [Act.put, sA, sB, sC]
  refine tkH 9 ⟨some 8, _, _, _, _, _⟩ ?_ rfl ?_ (by assumption) ?_
  rotate_left
  · (intro w hSw; (try dsimp only at hSw); go_simp; all_goals with_reducible rfl)
  try simp only [Act.put, sA, sB, sC]
  refine wpAnyH_done (by kernel_rfl) ?_ _
  have hc8 : Below x7.heap.size x7 y7v3 := hT3
  have hB8 : Below w.heap.size w y7v3 := hB7.trans (hc8.mono hB7.size)
  have zu8 := hB8.size
  replace PB := Lib.hid (PB.out.below hc8)
  replace RB := Lib.hid (RB.out.below hc8)
  clear PB_7_0 PB_7_1 PB_7_2 PB_7_3 lPB_7 nPB_7 mPB_7 RB_7_0 RB_7_1 RB_7_2 RB_7_3 RB_7_4 RB_7_5 RB_7_6 RB_7_7 RB_7_8 lRB_7 nRB_7 mRB_7
  clear HS hHeld hT0 hT1 hT2 hT3 hB7 zu7 hc7
  obtain ⟨PB_8_0, PB_8_1, PB_8_2, PB_8_3⟩ := b4 PB.out
  have lPB_8 := PB.out.lt
  have nPB_8 : y7v3.heap.size ≠ w.heap.size := by omega
  have mPB_8 : w.heap.size ≠ y7v3.heap.size := by omega
  obtain ⟨RB_8_0, RB_8_1, RB_8_2, RB_8_3, RB_8_4, RB_8_5, RB_8_6, RB_8_7, RB_8_8⟩ := b9 RB.out
  have lRB_8 := RB.out.lt
  have nRB_8 : y7v3.heap.size ≠ w.heap.size + 1 := by omega
  have mRB_8 : w.heap.size + 1 ≠ y7v3.heap.size := by omega
  clear HG1
  clear HD1
  clear HT1
  go_wp2_with fail
  refine (copyP_is nm s G D A B gn gc dn dc _ hgn hdn hg6 hd6 (Lib.hid (hG.out.below (by (repeat (first | (with_reducible refine Below.drew ?_) | (with_reducible refine below_drewN ?_ _) | (with_reducible refine Below.alloc ?_ (by first | omega | (simp; done) | (simp; omega) | (simp at *; omega)) _) | (with_reducible refine Below.setCell ?_ (by first | omega | (simp; done) | (simp; omega) | (simp at *; omega)) _) | (with_reducible exact Below.refl _ _) | (with_reducible assumption) | (with_reducible refine Below.trans ?_ (Below.mono (by assumption) (by first | omega | (simp; done) | (simp; omega) | (simp at *; omega))))))))) (Lib.hid (hD.out.below (by (repeat (first | (with_reducible refine Below.drew ?_) | (with_reducible refine below_drewN ?_ _) | (with_reducible refine Below.alloc ?_ (by first | omega | (simp; done) | (simp; omega) | (simp at *; omega)) _) | (with_reducible refine Below.setCell ?_ (by first | omega | (simp; done) | (simp; omega) | (simp at *; omega)) _) | (with_reducible exact Below.refl _ _) | (with_reducible assumption) | (with_reducible refine Below.trans ?_ (Below.mono (by assumption) (by first | omega | (simp; done) | (simp; omega) | (simp at *; omega))))))))) CG CD).mono ?_
  rintro e x9 ⟨A2, ca2, B2, cb2, rfl, hsg, hsd, hna, hnb, hb9⟩
  have hc9 : Below y7v3.heap.size y7v3 x9 := hb9
  have hB9 : Below w.heap.size w x9 := hB8.trans (hc9.mono hB8.size)
  have zu9 := hB9.size
  replace HL := Lib.hid (HL.out.below hc9)
  replace PB := Lib.hid (PB.out.below hc9)
  replace RB := Lib.hid (RB.out.below hc9)
  have HG2 := Lib.hid hsg
  have HD2 := Lib.hid hsd
  clear hsg hsd hna hnb
  clear PB_8_0 PB_8_1 PB_8_2 PB_8_3 lPB_8 nPB_8 mPB_8 RB_8_0 RB_8_1 RB_8_2 RB_8_3 RB_8_4 RB_8_5 RB_8_6 RB_8_7 RB_8_8 lRB_8 nRB_8 mRB_8
  clear hb9 hB8 zu8 hc8
  obtain ⟨PB_9_0, PB_9_1, PB_9_2, PB_9_3⟩ := b4 PB.out
  have lPB_9 := PB.out.lt
  have nPB_9 : x9.heap.size ≠ w.heap.size := by omega
  have mPB_9 : w.heap.size ≠ x9.heap.size := by omega
  obtain ⟨RB_9_0, RB_9_1, RB_9_2, RB_9_3, RB_9_4, RB_9_5, RB_9_6, RB_9_7, RB_9_8⟩ := b9 RB.out
  have lRB_9 := RB.out.lt
  have nRB_9 : x9.heap.size ≠ w.heap.size + 1 := by omega
  have mRB_9 : w.heap.size + 1 ≠ x9.heap.size := by omega
  go_wp2_with fail
  refine (GasAt_ok nm s G D A2 B2 gn ca2 dn cb2 N kk gk t _ hz hgn hgl hdn hdl HG2 HD2 hE0 hok ht0 ht1 hk hk2 hk3 hg).mono ?_
  rintro e x10 ⟨rfl, hb10⟩
  have hc10 : Below x9.heap.size x9 x10 := hb10
  have hB10 : Below w.heap.size w x10 := hB9.trans (hc10.mono hB9.size)
  have zu10 := hB10.size
  replace HL := Lib.hid (HL.out.below hc10)
  replace HG2 := Lib.hid (HG2.out.below hc10)
  replace HD2 := Lib.hid (HD2.out.below hc10)
  replace PB := Lib.hid (PB.out.below hc10)
  replace RB := Lib.hid (RB.out.below hc10)
  clear PB_9_0 PB_9_1 PB_9_2 PB_9_3 lPB_9 nPB_9 mPB_9 RB_9_0 RB_9_1 RB_9_2 RB_9_3 RB_9_4 RB_9_5 RB_9_6 RB_9_7 RB_9_8 lRB_9 nRB_9 mRB_9
  clear hb10 hB9 zu9 hc9
  obtain ⟨PB_10_0, PB_10_1, PB_10_2, PB_10_3⟩ := b4 PB.out
  have lPB_10 := PB.out.lt
  have nPB_10 : x10.heap.size ≠ w.heap.size := by omega
  have mPB_10 : w.heap.size ≠ x10.heap.size := by omega
  obtain ⟨RB_10_0, RB_10_1, RB_10_2, RB_10_3, RB_10_4, RB_10_5, RB_10_6, RB_10_7, RB_10_8⟩ := b9 RB.out
  have lRB_10 := RB.out.lt
  have nRB_10 : x10.heap.size ≠ w.heap.size + 1 := by omega
  have mRB_10 : w.heap.size + 1 ≠ x10.heap.size := by omega
  clear HG2
  clear HD2
  go_wp2_with fail
  refine (copyP_is nm s G D A B gn gc dn dc _ hgn hdn hg6 hd6 (Lib.hid (hG.out.below (by (repeat (first | (with_reducible refine Below.drew ?_) | (with_reducible refine below_drewN ?_ _) | (with_reducible refine Below.alloc ?_ (by first | omega | (simp; done) | (simp; omega) | (simp at *; omega)) _) | (with_reducible refine Below.setCell ?_ (by first | omega | (simp; done) | (simp; omega) | (simp at *; omega)) _) | (with_reducible exact Below.refl _ _) | (with_reducible assumption) | (with_reducible refine Below.trans ?_ (Below.mono (by assumption) (by first | omega | (simp; done) | (simp; omega) | (simp at *; omega))))))))) (Lib.hid (hD.out.below (by (repeat (first | (with_reducible refine Below.drew ?_) | (with_reducible refine below_drewN ?_ _) | (with_reducible refine Below.alloc ?_ (by first | omega | (simp; done) | (simp; omega) | (simp at *; omega)) _) | (with_reducible refine Below.setCell ?_ (by first | omega | (simp; done) | (simp; omega) | (simp at *; omega)) _) | (with_reducible exact Below.refl _ _) | (with_reducible assumption) | (with_reducible refine Below.trans ?_ (Below.mono (by assumption) (by first | omega | (simp; done) | (simp; omega) | (simp at *; omega))))))))) CG CD).mono ?_
  rintro e x11 ⟨A3, ca3, B3, cb3, rfl, hsg, hsd, hna, hnb, hb11⟩
  have hc11 : Below x10.heap.size x10 x11 := hb11
  have hB11 : Below w.heap.size w x11 := hB10.trans (hc11.mono hB10.size)
  have zu11 := hB11.size
  replace HL := Lib.hid (HL.out.below hc11)
  replace PB := Lib.hid (PB.out.below hc11)
  replace RB := Lib.hid (RB.out.below hc11)
  have HG3 := Lib.hid hsg
  have HD3 := Lib.hid hsd
  clear hsg hsd hna hnb
  clear PB_10_0 PB_10_1 PB_10_2 PB_10_3 lPB_10 nPB_10 mPB_10 RB_10_0 RB_10_1 RB_10_2 RB_10_3 RB_10_4 RB_10_5 RB_10_6 RB_10_7 RB_10_8 lRB_10 nRB_10 mRB_10
  clear hb11 hB10 zu10 hc10
  obtain ⟨PB_11_0, PB_11_1, PB_11_2, PB_11_3⟩ := b4 PB.out
  have lPB_11 := PB.out.lt
  have nPB_11 : x11.heap.size ≠ w.heap.size := by omega
  have mPB_11 : w.heap.size ≠ x11.heap.size := by omega
  obtain ⟨RB_11_0, RB_11_1, RB_11_2, RB_11_3, RB_11_4, RB_11_5, RB_11_6, RB_11_7, RB_11_8⟩ := b9 RB.out
  have lRB_11 := RB.out.lt
  have nRB_11 : x11.heap.size ≠ w.heap.size + 1 := by omega
  have mRB_11 : w.heap.size + 1 ≠ x11.heap.size := by omega
  go_wp2_with fail
  refine (DepthAt_ok nm s G D A3 B3 gn ca3 dn cb3 N kk t xa ya xb yb num den lo hi _ hz hgn hgl hdn hdl HG3 HD3 hE0 hok ht0 ht1 hk hk2 hk3 hxa hya hxb hyb a0 a1 a2 a3 ax e0 e1 f0 f1 hnum hden hlo hhi hn0 hn1).mono ?_
  rintro e x12 ⟨rfl, hb12⟩
  have hc12 : Below x11.heap.size x11 x12 := hb12
  have hB12 : Below w.heap.size w x12 := hB11.trans (hc12.mono hB11.size)
  have zu12 := hB12.size
  replace HL := Lib.hid (HL.out.below hc12)
  replace HG3 := Lib.hid (HG3.out.below hc12)
  replace HD3 := Lib.hid (HD3.out.below hc12)
  replace PB := Lib.hid (PB.out.below hc12)
  replace RB := Lib.hid (RB.out.below hc12)
  clear PB_11_0 PB_11_1 PB_11_2 PB_11_3 lPB_11 nPB_11 mPB_11 RB_11_0 RB_11_1 RB_11_2 RB_11_3 RB_11_4 RB_11_5 RB_11_6 RB_11_7 RB_11_8 lRB_11 nRB_11 mRB_11
  clear hb12 hB11 zu11 hc11
  obtain ⟨PB_12_0, PB_12_1, PB_12_2, PB_12_3⟩ := b4 PB.out
  have lPB_12 := PB.out.lt
  have nPB_12 : x12.heap.size ≠ w.heap.size := by omega
  have mPB_12 : w.heap.size ≠ x12.heap.size := by omega
  obtain ⟨RB_12_0, RB_12_1, RB_12_2, RB_12_3, RB_12_4, RB_12_5, RB_12_6, RB_12_7, RB_12_8⟩ := b9 RB.out
  have lRB_12 := RB.out.lt
  have nRB_12 : x12.heap.size ≠ w.heap.size + 1 := by omega
  have mRB_12 : w.heap.size + 1 ≠ x12.heap.size := by omega
  clear HG3
  clear HD3
  go_upto_region 8 with (fail)
  refine wp_worldE (fun u => Below x12.heap.size x12 u ∧ BlkF u w.heap.size (x12.heap.size) [.int .i64 lo, .int .i64 hi]) ⟨(Below.refl _ _).alloc (by first | exact Nat.le_refl _ | (simp; done) | (simp; omega)) _, BlkF.made (B := w.heap.size) x12 [.int .i64 lo, .int .i64 hi] 46 (by first | exact Nat.le_refl _ | exact hB12.size | (simp; done) | (simp; omega))⟩ (fun x13 hu13 => ?_)
  obtain ⟨hc13, qQB⟩ := hu13
  have QB := Lib.hid qQB
  clear qQB
  have hB13 : Below w.heap.size w x13 := hB12.trans (hc13.mono hB12.size)
  have zu13 := hB13.size
  replace HL := Lib.hid (HL.out.below hc13)
  replace PB := Lib.hid (PB.out.below hc13)
  replace RB := Lib.hid (RB.out.below hc13)
  clear PB_12_0 PB_12_1 PB_12_2 PB_12_3 lPB_12 nPB_12 mPB_12 RB_12_0 RB_12_1 RB_12_2 RB_12_3 RB_12_4 RB_12_5 RB_12_6 RB_12_7 RB_12_8 lRB_12 nRB_12 mRB_12
  clear hB12 zu12 hc12
  obtain ⟨PB_13_0, PB_13_1, PB_13_2, PB_13_3⟩ := b4 PB.out
  have lPB_13 := PB.out.lt
  have nPB_13 : x13.heap.size ≠ w.heap.size := by omega
  have mPB_13 : w.heap.size ≠ x13.heap.size := by omega
  obtain ⟨RB_13_0, RB_13_1, RB_13_2, RB_13_3, RB_13_4, RB_13_5, RB_13_6, RB_13_7, RB_13_8⟩ := b9 RB.out
  have lRB_13 := RB.out.lt
  have nRB_13 : x13.heap.size ≠ w.heap.size + 1 := by omega
  have mRB_13 : w.heap.size + 1 ≠ x13.heap.size := by omega
  obtain ⟨QB_13_0, QB_13_1⟩ := b2 QB.out
  have lQB_13 := QB.out.lt
  have nQB_13 : x13.heap.size ≠ x12.heap.size := by omega
  have mQB_13 : x12.heap.size ≠ x13.heap.size := by omega
  have HS : Hid (∀ y, Below x13.heap.size x13 y → y.cell? ⟨w.heap.size, 0, none⟩ = some (.string nm) ∧ y.cell? ⟨w.heap.size, 1, none⟩ = some (.int .i64 s) ∧ y.cell? ⟨w.heap.size, 2, none⟩ = some (.slice A gn gc) ∧ y.cell? ⟨w.heap.size, 3, none⟩ = some (.slice B dn dc) ∧ y.cell? ⟨w.heap.size + 1, 0, none⟩ = some (.slice AT tn tc) ∧ y.cell? ⟨w.heap.size + 1, 1, none⟩ = some (.int .i64 r.a) ∧ y.cell? ⟨w.heap.size + 1, 2, none⟩ = some (.int .i64 r.b) ∧ y.cell? ⟨w.heap.size + 1, 3, none⟩ = some (.int .i64 r.nc) ∧ y.cell? ⟨w.heap.size + 1, 4, none⟩ = some (.int .i64 r.dn) ∧ y.cell? ⟨w.heap.size + 1, 5, none⟩ = some (.int .i64 r.br) ∧ y.cell? ⟨w.heap.size + 1, 6, none⟩ = some (.int .i64 r.em) ∧ y.cell? ⟨w.heap.size + 1, 7, none⟩ = some (.int .i64 r.pa) ∧ y.cell? ⟨w.heap.size + 1, 8, none⟩ = some (.int .i64 r.sc) ∧ y.cell? ⟨x12.heap.size, 0, none⟩ = some (.int .i64 lo) ∧ y.cell? ⟨x12.heap.size, 1, none⟩ = some (.int .i64 hi)) := Lib.hid fun y hy => ⟨(hy.cell (p := ⟨w.heap.size, 0, none⟩) lPB_13).trans PB_13_0, (hy.cell (p := ⟨w.heap.size, 1, none⟩) lPB_13).trans PB_13_1, (hy.cell (p := ⟨w.heap.size, 2, none⟩) lPB_13).trans PB_13_2, (hy.cell (p := ⟨w.heap.size, 3, none⟩) lPB_13).trans PB_13_3, (hy.cell (p := ⟨w.heap.size + 1, 0, none⟩) lRB_13).trans RB_13_0, (hy.cell (p := ⟨w.heap.size + 1, 1, none⟩) lRB_13).trans RB_13_1, (hy.cell (p := ⟨w.heap.size + 1, 2, none⟩) lRB_13).trans RB_13_2, (hy.cell (p := ⟨w.heap.size + 1, 3, none⟩) lRB_13).trans RB_13_3, (hy.cell (p := ⟨w.heap.size + 1, 4, none⟩) lRB_13).trans RB_13_4, (hy.cell (p := ⟨w.heap.size + 1, 5, none⟩) lRB_13).trans RB_13_5, (hy.cell (p := ⟨w.heap.size + 1, 6, none⟩) lRB_13).trans RB_13_6, (hy.cell (p := ⟨w.heap.size + 1, 7, none⟩) lRB_13).trans RB_13_7, (hy.cell (p := ⟨w.heap.size + 1, 8, none⟩) lRB_13).trans RB_13_8, (hy.cell (p := ⟨x12.heap.size, 0, none⟩) lQB_13).trans QB_13_0, (hy.cell (p := ⟨x12.heap.size, 1, none⟩) lQB_13).trans QB_13_1⟩
  refine wp_region_held_drew (S := (fun w' => w'.cell? ⟨w.heap.size, 0, none⟩ = some (.string nm) ∧ w'.cell? ⟨w.heap.size, 1, none⟩ = some (.int .i64 s) ∧ w'.cell? ⟨w.heap.size, 2, none⟩ = some (.slice A gn gc) ∧ w'.cell? ⟨w.heap.size, 3, none⟩ = some (.slice B dn dc) ∧ w'.cell? ⟨w.heap.size + 1, 0, none⟩ = some (.slice AT tn tc) ∧ w'.cell? ⟨w.heap.size + 1, 1, none⟩ = some (.int .i64 r.a) ∧ w'.cell? ⟨w.heap.size + 1, 2, none⟩ = some (.int .i64 r.b) ∧ w'.cell? ⟨w.heap.size + 1, 3, none⟩ = some (.int .i64 r.nc) ∧ w'.cell? ⟨w.heap.size + 1, 4, none⟩ = some (.int .i64 r.dn) ∧ w'.cell? ⟨w.heap.size + 1, 5, none⟩ = some (.int .i64 r.br) ∧ w'.cell? ⟨w.heap.size + 1, 6, none⟩ = some (.int .i64 r.em) ∧ w'.cell? ⟨w.heap.size + 1, 7, none⟩ = some (.int .i64 r.pa) ∧ w'.cell? ⟨w.heap.size + 1, 8, none⟩ = some (.int .i64 r.sc) ∧ w'.cell? ⟨x12.heap.size, 0, none⟩ = some (.int .i64 lo) ∧ w'.cell? ⟨x12.heap.size, 1, none⟩ = some (.int .i64 hi))) (by kernel_rfl) (HS.out _ (Below.refl _ _).drew) (fun hHeld => ?_)
  have hT0 : Below x13.heap.size x13 x13.drew := (Below.refl _ _).drew
  generalize hdr : x13.drew = y13v0 at *
  clear hdr
  refine tkH 0 ⟨some 79, _, _, _, _, _⟩ ?_ rfl ?_ (by assumption) ?_
  rotate_left
  · (intro w hSw; (try dsimp only at hSw); go_simp; all_goals with_reducible rfl)
  try simp only [Act.put, sA, sB, sC]
  refine tkH 2 ⟨some 81, _, _, _, _, _⟩ ?_ rfl ?_ (by assumption) ?_
  rotate_left
  · (intro w hSw; (try dsimp only at hSw); go_simp; all_goals with_reducible rfl)
  try simp only [Act.put, sA, sB, sC]
  refine tkH 3 ⟨some 82, _, _, _, _, _⟩ ?_ rfl ?_ (by assumption) ?_
  rotate_left
  · (intro w hSw; (try dsimp only at hSw); go_simp; all_goals with_reducible rfl)
  try simp only [Act.put, sA, sB, sC]
  refine tkH 4 ⟨some 83, _, _, _, _, _⟩ ?_ rfl ?_ (by assumption) ?_
  rotate_left
  · (intro w hSw; (try dsimp only at hSw); go_simp; all_goals with_reducible rfl)
  try simp only [Act.put, sA, sB, sC]
  refine wpAnyH_ready (rs := [1]) (by kernel_rfl) (by simp) ?_
  refine AllReadyH.cons rfl (fun K hK => ?_) (AllReadyH.nil)
  go_simp
  refine (copyP_is nm s G D A B gn gc dn dc _ hgn hdn hg6 hd6 (Lib.hid (hG.out.below (hB13.trans (hT0.mono hB13.size)))) (Lib.hid (hD.out.below (hB13.trans (hT0.mono hB13.size)))) CG CD).mono ?_
  rintro e y13v1 ⟨A4, ca4, B4, cb4, rfl, hsg, hsd, hna, hnb, hby13v0⟩
  have hT1 : Below x13.heap.size x13 y13v1 := hT0.trans (hby13v0.mono hT0.size)
  have HG4 := Lib.hid hsg
  have HD4 := Lib.hid hsd
  clear hsg hsd hna hnb
  clear hby13v0
  go_wp2_with fail
  refine hK.out _ _ (HS.out _ hT1) (fun hHeld => ?_)
  clear hK K
  try simp only [Act.put, sA, sB, sC]
  refine wpAnyH_ready (rs := [5]) (by kernel_rfl) (by simp) ?_
  refine AllReadyH.cons rfl (fun K hK => ?_) (AllReadyH.nil)
  go_simp
  refine (cl_good (ConsumedAt_any nm s G D A4 B4 gn ca4 dn cb4 N r.br t 0 0 0 0 0 _ hz hgn hgl hdn hdl HG4 HD4 hE0 hEb hF2 hF3 hE4) rfl).mono ?_
  rintro e y13v2 ⟨ub, rfl, hsu, huge, hby13v1⟩
  have hT2 : Below x13.heap.size x13 y13v2 := hT1.trans (hby13v1.mono hT1.size)
  replace HG4 := Lib.hid (HG4.out.below hby13v1)
  replace HD4 := Lib.hid (HD4.out.below hby13v1)
  rw [hu9.out] at hsu
  have HU := Lib.hid hsu
  clear hsu huge
  clear hby13v1
  go_wp2_with fail
  refine hK.out _ _ (HS.out _ hT2) (fun hHeld => ?_)
  clear hK K
  try simp only [Act.put, sA, sB, sC]
  refine tkH 6 ⟨some 78, _, _, _, _, _⟩ ?_ rfl ?_ (by assumption) ?_
  rotate_left
  · (intro w hSw; (try dsimp only at hSw); go_simp; all_goals with_reducible rfl)
  try simp only [Act.put, sA, sB, sC]
  refine tkH 7 ⟨some 85, _, _, _, _, _⟩ ?_ rfl ?_ (by assumption) ?_
  rotate_left
  · (intro w hSw; (try dsimp only at hSw); go_simp; all_goals with_reducible rfl)
  try simp only [Act.put, sA, sB, sC]
  refine tkH 8 ⟨some 86, _, _, _, _, _⟩ ?_ rfl ?_ (by assumption) ?_
  rotate_left
  · (intro w hSw; (try dsimp only at hSw); go_simp; all_goals with_reducible rfl)
  try simp only [Act.put, sA, sB, sC]
  refine tkH 9 ⟨some 13, _, _, _, _, _⟩ ?_ rfl ?_ (by assumption) ?_
  rotate_left
  · (intro w hSw; (try dsimp only at hSw); go_simp; all_goals with_reducible rfl)
  try simp only [Act.put, sA, sB, sC]
  refine tkH 10 ⟨some 14, _, _, _, _, _⟩ ?_ rfl ?_ (by assumption) ?_
  rotate_left
  · (intro w hSw; (try dsimp only at hSw); go_simp; all_goals with_reducible rfl)
  try simp only [Act.put, sA, sB, sC]
  refine wpAnyH_done (by kernel_rfl) ?_ _
  have hc14 : Below x13.heap.size x13 y13v2 := hT2
  have hB14 : Below w.heap.size w y13v2 := hB13.trans (hc14.mono hB13.size)
  have zu14 := hB14.size
  replace HL := Lib.hid (HL.out.below hc14)
  replace PB := Lib.hid (PB.out.below hc14)
  replace RB := Lib.hid (RB.out.below hc14)
  replace QB := Lib.hid (QB.out.below hc14)
  clear PB_13_0 PB_13_1 PB_13_2 PB_13_3 lPB_13 nPB_13 mPB_13 RB_13_0 RB_13_1 RB_13_2 RB_13_3 RB_13_4 RB_13_5 RB_13_6 RB_13_7 RB_13_8 lRB_13 nRB_13 mRB_13 QB_13_0 QB_13_1 lQB_13 nQB_13 mQB_13
  clear HS hHeld hT0 hT1 hT2 hB13 zu13 hc13
  obtain ⟨PB_14_0, PB_14_1, PB_14_2, PB_14_3⟩ := b4 PB.out
  have lPB_14 := PB.out.lt
  have nPB_14 : y13v2.heap.size ≠ w.heap.size := by omega
  have mPB_14 : w.heap.size ≠ y13v2.heap.size := by omega
  obtain ⟨RB_14_0, RB_14_1, RB_14_2, RB_14_3, RB_14_4, RB_14_5, RB_14_6, RB_14_7, RB_14_8⟩ := b9 RB.out
  have lRB_14 := RB.out.lt
  have nRB_14 : y13v2.heap.size ≠ w.heap.size + 1 := by omega
  have mRB_14 : w.heap.size + 1 ≠ y13v2.heap.size := by omega
  obtain ⟨QB_14_0, QB_14_1⟩ := b2 QB.out
  have lQB_14 := QB.out.lt
  have nQB_14 : y13v2.heap.size ≠ x12.heap.size := by omega
  have mQB_14 : x12.heap.size ≠ y13v2.heap.size := by omega
  clear HG4
  clear HD4
  go_wp2_with fail
  refine (wB4 (gk : Int) 0 ((gn : Int) - 1) true _ hwg).mono ?_
  rintro e x15 ⟨rfl, hb15⟩
  have hc15 : Below y13v2.heap.size y13v2 x15 := hb15
  have hB15 : Below w.heap.size w x15 := hB14.trans (hc15.mono hB14.size)
  have zu15 := hB15.size
  replace HL := Lib.hid (HL.out.below hc15)
  replace HU := Lib.hid (HU.out.below hc15)
  replace PB := Lib.hid (PB.out.below hc15)
  replace RB := Lib.hid (RB.out.below hc15)
  replace QB := Lib.hid (QB.out.below hc15)
  clear PB_14_0 PB_14_1 PB_14_2 PB_14_3 lPB_14 nPB_14 mPB_14 RB_14_0 RB_14_1 RB_14_2 RB_14_3 RB_14_4 RB_14_5 RB_14_6 RB_14_7 RB_14_8 lRB_14 nRB_14 mRB_14 QB_14_0 QB_14_1 lQB_14 nQB_14 mQB_14
  clear hb15 hB14 zu14 hc14
  obtain ⟨PB_15_0, PB_15_1, PB_15_2, PB_15_3⟩ := b4 PB.out
  have lPB_15 := PB.out.lt
  have nPB_15 : x15.heap.size ≠ w.heap.size := by omega
  have mPB_15 : w.heap.size ≠ x15.heap.size := by omega
  obtain ⟨RB_15_0, RB_15_1, RB_15_2, RB_15_3, RB_15_4, RB_15_5, RB_15_6, RB_15_7, RB_15_8⟩ := b9 RB.out
  have lRB_15 := RB.out.lt
  have nRB_15 : x15.heap.size ≠ w.heap.size + 1 := by omega
  have mRB_15 : w.heap.size + 1 ≠ x15.heap.size := by omega
  obtain ⟨QB_15_0, QB_15_1⟩ := b2 QB.out
  have lQB_15 := QB.out.lt
  have nQB_15 : x15.heap.size ≠ x12.heap.size := by omega
  have mQB_15 : x12.heap.size ≠ x15.heap.size := by omega
  go_wp2_with fail
  refine (sumOf_is U9 ub 0 gn gn _ hun hg8 HU hub).mono ?_
  rintro e x16 ⟨zs, hzs0, rfl, hb16⟩
  have hc16 : Below x15.heap.size x15 x16 := hb16
  have hB16 : Below w.heap.size w x16 := hB15.trans (hc16.mono hB15.size)
  have zu16 := hB16.size
  replace HL := Lib.hid (HL.out.below hc16)
  replace HU := Lib.hid (HU.out.below hc16)
  replace PB := Lib.hid (PB.out.below hc16)
  replace RB := Lib.hid (RB.out.below hc16)
  replace QB := Lib.hid (QB.out.below hc16)
  have hzn : ¬ zs < 0 := by omega
  clear PB_15_0 PB_15_1 PB_15_2 PB_15_3 lPB_15 nPB_15 mPB_15 RB_15_0 RB_15_1 RB_15_2 RB_15_3 RB_15_4 RB_15_5 RB_15_6 RB_15_7 RB_15_8 lRB_15 nRB_15 mRB_15 QB_15_0 QB_15_1 lQB_15 nQB_15 mQB_15
  clear hb16 hB15 zu15 hc15
  obtain ⟨PB_16_0, PB_16_1, PB_16_2, PB_16_3⟩ := b4 PB.out
  have lPB_16 := PB.out.lt
  have nPB_16 : x16.heap.size ≠ w.heap.size := by omega
  have mPB_16 : w.heap.size ≠ x16.heap.size := by omega
  obtain ⟨RB_16_0, RB_16_1, RB_16_2, RB_16_3, RB_16_4, RB_16_5, RB_16_6, RB_16_7, RB_16_8⟩ := b9 RB.out
  have lRB_16 := RB.out.lt
  have nRB_16 : x16.heap.size ≠ w.heap.size + 1 := by omega
  have mRB_16 : w.heap.size + 1 ≠ x16.heap.size := by omega
  obtain ⟨QB_16_0, QB_16_1⟩ := b2 QB.out
  have lQB_16 := QB.out.lt
  have nQB_16 : x16.heap.size ≠ x12.heap.size := by omega
  have mQB_16 : x12.heap.size ≠ x16.heap.size := by omega
  go_upto_region 11 with (fail)
  have HS : Hid (∀ y, Below x16.heap.size x16 y → y.cell? ⟨w.heap.size, 0, none⟩ = some (.string nm) ∧ y.cell? ⟨w.heap.size, 1, none⟩ = some (.int .i64 s) ∧ y.cell? ⟨w.heap.size, 2, none⟩ = some (.slice A gn gc) ∧ y.cell? ⟨w.heap.size, 3, none⟩ = some (.slice B dn dc) ∧ y.cell? ⟨w.heap.size + 1, 0, none⟩ = some (.slice AT tn tc) ∧ y.cell? ⟨w.heap.size + 1, 1, none⟩ = some (.int .i64 r.a) ∧ y.cell? ⟨w.heap.size + 1, 2, none⟩ = some (.int .i64 r.b) ∧ y.cell? ⟨w.heap.size + 1, 3, none⟩ = some (.int .i64 r.nc) ∧ y.cell? ⟨w.heap.size + 1, 4, none⟩ = some (.int .i64 r.dn) ∧ y.cell? ⟨w.heap.size + 1, 5, none⟩ = some (.int .i64 r.br) ∧ y.cell? ⟨w.heap.size + 1, 6, none⟩ = some (.int .i64 r.em) ∧ y.cell? ⟨w.heap.size + 1, 7, none⟩ = some (.int .i64 r.pa) ∧ y.cell? ⟨w.heap.size + 1, 8, none⟩ = some (.int .i64 r.sc) ∧ y.cell? ⟨x12.heap.size, 0, none⟩ = some (.int .i64 lo) ∧ y.cell? ⟨x12.heap.size, 1, none⟩ = some (.int .i64 hi)) := Lib.hid fun y hy => ⟨(hy.cell (p := ⟨w.heap.size, 0, none⟩) lPB_16).trans PB_16_0, (hy.cell (p := ⟨w.heap.size, 1, none⟩) lPB_16).trans PB_16_1, (hy.cell (p := ⟨w.heap.size, 2, none⟩) lPB_16).trans PB_16_2, (hy.cell (p := ⟨w.heap.size, 3, none⟩) lPB_16).trans PB_16_3, (hy.cell (p := ⟨w.heap.size + 1, 0, none⟩) lRB_16).trans RB_16_0, (hy.cell (p := ⟨w.heap.size + 1, 1, none⟩) lRB_16).trans RB_16_1, (hy.cell (p := ⟨w.heap.size + 1, 2, none⟩) lRB_16).trans RB_16_2, (hy.cell (p := ⟨w.heap.size + 1, 3, none⟩) lRB_16).trans RB_16_3, (hy.cell (p := ⟨w.heap.size + 1, 4, none⟩) lRB_16).trans RB_16_4, (hy.cell (p := ⟨w.heap.size + 1, 5, none⟩) lRB_16).trans RB_16_5, (hy.cell (p := ⟨w.heap.size + 1, 6, none⟩) lRB_16).trans RB_16_6, (hy.cell (p := ⟨w.heap.size + 1, 7, none⟩) lRB_16).trans RB_16_7, (hy.cell (p := ⟨w.heap.size + 1, 8, none⟩) lRB_16).trans RB_16_8, (hy.cell (p := ⟨x12.heap.size, 0, none⟩) lQB_16).trans QB_16_0, (hy.cell (p := ⟨x12.heap.size, 1, none⟩) lQB_16).trans QB_16_1⟩
  refine wp_region_held_drew (S := (fun w' => w'.cell? ⟨w.heap.size, 0, none⟩ = some (.string nm) ∧ w'.cell? ⟨w.heap.size, 1, none⟩ = some (.int .i64 s) ∧ w'.cell? ⟨w.heap.size, 2, none⟩ = some (.slice A gn gc) ∧ w'.cell? ⟨w.heap.size, 3, none⟩ = some (.slice B dn dc) ∧ w'.cell? ⟨w.heap.size + 1, 0, none⟩ = some (.slice AT tn tc) ∧ w'.cell? ⟨w.heap.size + 1, 1, none⟩ = some (.int .i64 r.a) ∧ w'.cell? ⟨w.heap.size + 1, 2, none⟩ = some (.int .i64 r.b) ∧ w'.cell? ⟨w.heap.size + 1, 3, none⟩ = some (.int .i64 r.nc) ∧ w'.cell? ⟨w.heap.size + 1, 4, none⟩ = some (.int .i64 r.dn) ∧ w'.cell? ⟨w.heap.size + 1, 5, none⟩ = some (.int .i64 r.br) ∧ w'.cell? ⟨w.heap.size + 1, 6, none⟩ = some (.int .i64 r.em) ∧ w'.cell? ⟨w.heap.size + 1, 7, none⟩ = some (.int .i64 r.pa) ∧ w'.cell? ⟨w.heap.size + 1, 8, none⟩ = some (.int .i64 r.sc) ∧ w'.cell? ⟨x12.heap.size, 0, none⟩ = some (.int .i64 lo) ∧ w'.cell? ⟨x12.heap.size, 1, none⟩ = some (.int .i64 hi))) (by kernel_rfl) (HS.out _ (Below.refl _ _).drew) (fun hHeld => ?_)
  have hT0 : Below x16.heap.size x16 x16.drew := (Below.refl _ _).drew
  generalize hdr : x16.drew = y16v0 at *
  clear hdr
  refine tkH 0 ⟨some 131, _, _, _, _, _⟩ ?_ rfl ?_ (by assumption) ?_
  rotate_left
  · (intro w hSw; (try dsimp only at hSw); go_simp; all_goals with_reducible rfl)
  try simp only [Act.put, sA, sB, sC]
  refine tkH 2 ⟨some 133, _, _, _, _, _⟩ ?_ rfl ?_ (by assumption) ?_
  rotate_left
  · (intro w hSw; (try dsimp only at hSw); go_simp; all_goals with_reducible rfl)
  try simp only [Act.put, sA, sB, sC]
  refine tkH 3 ⟨some 134, _, _, _, _, _⟩ ?_ rfl ?_ (by assumption) ?_
  rotate_left
  · (intro w hSw; (try dsimp only at hSw); go_simp; all_goals with_reducible rfl)
  try simp only [Act.put, sA, sB, sC]
  refine tkH 4 ⟨some 135, _, _, _, _, _⟩ ?_ rfl ?_ (by assumption) ?_
  rotate_left
  · (intro w hSw; (try dsimp only at hSw); go_simp; all_goals with_reducible rfl)
  try simp only [Act.put, sA, sB, sC]
  refine tkH 5 ⟨some 136, _, _, _, _, _⟩ ?_ rfl ?_ (by assumption) ?_
  rotate_left
  · (intro w hSw; (try dsimp only at hSw); go_simp; all_goals with_reducible rfl)
  try simp only [Act.put, sA, sB, sC]
  refine wpAnyH_ready (rs := [1]) (by kernel_rfl) (by simp) ?_
  refine AllReadyH.cons rfl (fun K hK => ?_) (AllReadyH.nil)
  go_simp
  refine (copyR_is T r AT tn tc _ htn ht6 (Lib.hid (hT.out.below (hB16.trans (hT0.mono hB16.size)))) CT).mono ?_
  rintro e y16v1 ⟨AT5, ct5, rfl, hst, hby16v0⟩
  have hT1 : Below x16.heap.size x16 y16v1 := hT0.trans (hby16v0.mono hT0.size)
  have HT5 := Lib.hid hst
  clear hst
  clear hby16v0
  go_wp2_with fail
  refine hK.out _ _ (HS.out _ hT1) (fun hHeld => ?_)
  clear hK K
  try simp only [Act.put, sA, sB, sC]
  refine wpAnyH_ready (rs := [6]) (by kernel_rfl) (by simp) ?_
  refine AllReadyH.cons rfl (fun K hK => ?_) (AllReadyH.nil)
  go_simp
  refine (cl_good (EscapeFrom_any T r AT5 tn ct5 s hi 0 0 0 0 _ htn htl HT5 hE1 hE2s hE3d hE3z) rfl).mono ?_
  rintro e y16v2 ⟨rfl, hby16v1⟩
  have hT2 : Below x16.heap.size x16 y16v2 := hT1.trans (hby16v1.mono hT1.size)
  replace HT5 := Lib.hid (HT5.out.below hby16v1)
  rw [hn9.out]
  clear hby16v1
  go_wp2_with fail
  refine hK.out _ _ (HS.out _ hT2) (fun hHeld => ?_)
  clear hK K
  try simp only [Act.put, sA, sB, sC]
  refine tkH 7 ⟨some 130, _, _, _, _, _⟩ ?_ rfl ?_ (by assumption) ?_
  rotate_left
  · (intro w hSw; (try dsimp only at hSw); go_simp; all_goals with_reducible rfl)
  try simp only [Act.put, sA, sB, sC]
  refine tkH 8 ⟨some 138, _, _, _, _, _⟩ ?_ rfl ?_ (by assumption) ?_
  rotate_left
  · (intro w hSw; (try dsimp only at hSw); go_simp; all_goals with_reducible rfl)
  try simp only [Act.put, sA, sB, sC]
  refine tkH 9 ⟨some 139, _, _, _, _, _⟩ ?_ rfl ?_ (by assumption) ?_
  rotate_left
  · (intro w hSw; (try dsimp only at hSw); go_simp; all_goals with_reducible rfl)
  try simp only [Act.put, sA, sB, sC]
  refine tkH 10 ⟨some 15, _, _, _, _, _⟩ ?_ rfl ?_ (by assumption) ?_
  rotate_left
  · (intro w hSw; (try dsimp only at hSw); go_simp; all_goals with_reducible rfl)
  try simp only [Act.put, sA, sB, sC]
  refine tkH 11 ⟨some 16, _, _, _, _, _⟩ ?_ rfl ?_ (by assumption) ?_
  rotate_left
  · (intro w hSw; (try dsimp only at hSw); go_simp; all_goals with_reducible rfl)
  try simp only [Act.put, sA, sB, sC]
  refine wpAnyH_done (by kernel_rfl) ?_ _
  have hc17 : Below x16.heap.size x16 y16v2 := hT2
  have hB17 : Below w.heap.size w y16v2 := hB16.trans (hc17.mono hB16.size)
  have zu17 := hB17.size
  replace HL := Lib.hid (HL.out.below hc17)
  replace HU := Lib.hid (HU.out.below hc17)
  replace PB := Lib.hid (PB.out.below hc17)
  replace RB := Lib.hid (RB.out.below hc17)
  replace QB := Lib.hid (QB.out.below hc17)
  clear PB_16_0 PB_16_1 PB_16_2 PB_16_3 lPB_16 nPB_16 mPB_16 RB_16_0 RB_16_1 RB_16_2 RB_16_3 RB_16_4 RB_16_5 RB_16_6 RB_16_7 RB_16_8 lRB_16 nRB_16 mRB_16 QB_16_0 QB_16_1 lQB_16 nQB_16 mQB_16
  clear HS hHeld hT0 hT1 hT2 hB16 zu16 hc16
  obtain ⟨PB_17_0, PB_17_1, PB_17_2, PB_17_3⟩ := b4 PB.out
  have lPB_17 := PB.out.lt
  have nPB_17 : y16v2.heap.size ≠ w.heap.size := by omega
  have mPB_17 : w.heap.size ≠ y16v2.heap.size := by omega
  obtain ⟨RB_17_0, RB_17_1, RB_17_2, RB_17_3, RB_17_4, RB_17_5, RB_17_6, RB_17_7, RB_17_8⟩ := b9 RB.out
  have lRB_17 := RB.out.lt
  have nRB_17 : y16v2.heap.size ≠ w.heap.size + 1 := by omega
  have mRB_17 : w.heap.size + 1 ≠ y16v2.heap.size := by omega
  obtain ⟨QB_17_0, QB_17_1⟩ := b2 QB.out
  have lQB_17 := QB.out.lt
  have nQB_17 : y16v2.heap.size ≠ x12.heap.size := by omega
  have mQB_17 : x12.heap.size ≠ y16v2.heap.size := by omega
  clear HT5
  have g0 := (sl_nvT HL.out hgl9 ha9.out hz9.out).1
  have g1 := sl_intA HU.out (k := gk) hgu9 hu8.out
  rw [Nat.zero_add] at g1
  have llb : lb < y16v2.heap.size := by rcases HL.out with h | ⟨b, o, e, hl, _⟩; (rw [h] at hgl9; simp at hgl9); (cases e; exact hl)
  have lub : ub < y16v2.heap.size := by rcases HU.out with h | ⟨b, o, e, hl, _⟩; (rw [h] at hgu9; simp at hgu9); (cases e; exact hl)
  go_upto_region 12 with (fail)
  have HS : Hid (∀ y, Below y16v2.heap.size y16v2 y → y.cell? ⟨w.heap.size, 0, none⟩ = some (.string nm) ∧ y.cell? ⟨w.heap.size, 1, none⟩ = some (.int .i64 s) ∧ y.cell? ⟨w.heap.size, 2, none⟩ = some (.slice A gn gc) ∧ y.cell? ⟨w.heap.size, 3, none⟩ = some (.slice B dn dc) ∧ y.cell? ⟨w.heap.size + 1, 0, none⟩ = some (.slice AT tn tc) ∧ y.cell? ⟨w.heap.size + 1, 1, none⟩ = some (.int .i64 r.a) ∧ y.cell? ⟨w.heap.size + 1, 2, none⟩ = some (.int .i64 r.b) ∧ y.cell? ⟨w.heap.size + 1, 3, none⟩ = some (.int .i64 r.nc) ∧ y.cell? ⟨w.heap.size + 1, 4, none⟩ = some (.int .i64 r.dn) ∧ y.cell? ⟨w.heap.size + 1, 5, none⟩ = some (.int .i64 r.br) ∧ y.cell? ⟨w.heap.size + 1, 6, none⟩ = some (.int .i64 r.em) ∧ y.cell? ⟨w.heap.size + 1, 7, none⟩ = some (.int .i64 r.pa) ∧ y.cell? ⟨w.heap.size + 1, 8, none⟩ = some (.int .i64 r.sc) ∧ y.cell? ⟨x12.heap.size, 0, none⟩ = some (.int .i64 lo) ∧ y.cell? ⟨x12.heap.size, 1, none⟩ = some (.int .i64 hi) ∧ y.cell? ⟨lb, gk * 2, none⟩ = some (.int .i64 a9) ∧ y.cell? ⟨ub, gk, none⟩ = some (.int .i64 u9)) := Lib.hid fun y hy => ⟨(hy.cell (p := ⟨w.heap.size, 0, none⟩) lPB_17).trans PB_17_0, (hy.cell (p := ⟨w.heap.size, 1, none⟩) lPB_17).trans PB_17_1, (hy.cell (p := ⟨w.heap.size, 2, none⟩) lPB_17).trans PB_17_2, (hy.cell (p := ⟨w.heap.size, 3, none⟩) lPB_17).trans PB_17_3, (hy.cell (p := ⟨w.heap.size + 1, 0, none⟩) lRB_17).trans RB_17_0, (hy.cell (p := ⟨w.heap.size + 1, 1, none⟩) lRB_17).trans RB_17_1, (hy.cell (p := ⟨w.heap.size + 1, 2, none⟩) lRB_17).trans RB_17_2, (hy.cell (p := ⟨w.heap.size + 1, 3, none⟩) lRB_17).trans RB_17_3, (hy.cell (p := ⟨w.heap.size + 1, 4, none⟩) lRB_17).trans RB_17_4, (hy.cell (p := ⟨w.heap.size + 1, 5, none⟩) lRB_17).trans RB_17_5, (hy.cell (p := ⟨w.heap.size + 1, 6, none⟩) lRB_17).trans RB_17_6, (hy.cell (p := ⟨w.heap.size + 1, 7, none⟩) lRB_17).trans RB_17_7, (hy.cell (p := ⟨w.heap.size + 1, 8, none⟩) lRB_17).trans RB_17_8, (hy.cell (p := ⟨x12.heap.size, 0, none⟩) lQB_17).trans QB_17_0, (hy.cell (p := ⟨x12.heap.size, 1, none⟩) lQB_17).trans QB_17_1, (hy.cell (p := ⟨lb, gk * 2, none⟩) llb).trans g0, (hy.cell (p := ⟨ub, gk, none⟩) lub).trans g1⟩
  refine wp_region_held_drew (S := (fun w' => w'.cell? ⟨w.heap.size, 0, none⟩ = some (.string nm) ∧ w'.cell? ⟨w.heap.size, 1, none⟩ = some (.int .i64 s) ∧ w'.cell? ⟨w.heap.size, 2, none⟩ = some (.slice A gn gc) ∧ w'.cell? ⟨w.heap.size, 3, none⟩ = some (.slice B dn dc) ∧ w'.cell? ⟨w.heap.size + 1, 0, none⟩ = some (.slice AT tn tc) ∧ w'.cell? ⟨w.heap.size + 1, 1, none⟩ = some (.int .i64 r.a) ∧ w'.cell? ⟨w.heap.size + 1, 2, none⟩ = some (.int .i64 r.b) ∧ w'.cell? ⟨w.heap.size + 1, 3, none⟩ = some (.int .i64 r.nc) ∧ w'.cell? ⟨w.heap.size + 1, 4, none⟩ = some (.int .i64 r.dn) ∧ w'.cell? ⟨w.heap.size + 1, 5, none⟩ = some (.int .i64 r.br) ∧ w'.cell? ⟨w.heap.size + 1, 6, none⟩ = some (.int .i64 r.em) ∧ w'.cell? ⟨w.heap.size + 1, 7, none⟩ = some (.int .i64 r.pa) ∧ w'.cell? ⟨w.heap.size + 1, 8, none⟩ = some (.int .i64 r.sc) ∧ w'.cell? ⟨x12.heap.size, 0, none⟩ = some (.int .i64 lo) ∧ w'.cell? ⟨x12.heap.size, 1, none⟩ = some (.int .i64 hi) ∧ w'.cell? ⟨lb, gk * 2, none⟩ = some (.int .i64 a9) ∧ w'.cell? ⟨ub, gk, none⟩ = some (.int .i64 u9))) (by kernel_rfl) (HS.out _ (Below.refl _ _).drew) (fun hHeld => ?_)
  have hT0 : Below y16v2.heap.size y16v2 y16v2.drew := (Below.refl _ _).drew
  generalize hdr : y16v2.drew = y17v0 at *
  clear hdr
  refine tkH 0 ⟨some 140, _, _, _, _, _⟩ ?_ rfl ?_ (by assumption) ?_
  rotate_left
  · (intro w hSw; (try dsimp only at hSw); go_simp; all_goals with_reducible rfl)
  try simp only [Act.put, sA, sB, sC]
  refine tkH 1 ⟨some 141, _, _, _, _, _⟩ ?_ rfl ?_ (by assumption) ?_
  rotate_left
  · (intro w hSw; (try dsimp only at hSw); go_simp; all_goals with_reducible rfl)
  try simp only [Act.put, sA, sB, sC]
  refine tkH 2 ⟨some 142, _, _, _, _, _⟩ ?_ rfl ?_ (by assumption) ?_
  rotate_left
  · (intro w hSw; (try dsimp only at hSw); go_simp; all_goals with_reducible rfl)
  try simp only [Act.put, sA, sB, sC]
  refine tkH 3 ⟨some 143, _, _, _, _, _⟩ ?_ rfl ?_ (by assumption) ?_
  rotate_left
  · (intro w hSw; (try dsimp only at hSw); go_simp; all_goals with_reducible rfl)
  try simp only [Act.put, sA, sB, sC]
  refine wpAnyH_ready (rs := [4]) (by kernel_rfl) (by simp) ?_
  refine AllReadyH.cons rfl (fun K hK => ?_) (AllReadyH.nil)
  go_simp
  refine (wB4 n9 0 1000000000000000 true _ hwn).mono ?_
  rintro e y17v1 ⟨rfl, hby17v0⟩
  have hT1 : Below y16v2.heap.size y16v2 y17v1 := hT0.trans (hby17v0.mono hT0.size)
  clear hby17v0
  go_wp2_with fail
  refine hK.out _ _ (HS.out _ hT1) (fun hHeld => ?_)
  clear hK K
  try simp only [Act.put, sA, sB, sC]
  refine tkH 5 ⟨some 145, _, _, _, _, _⟩ ?_ rfl ?_ (by assumption) ?_
  rotate_left
  · (intro w hSw; (try dsimp only at hSw); go_simp; all_goals with_reducible rfl)
  try simp only [Act.put, sA, sB, sC]
  refine tkH 6 ⟨some 146, _, _, _, _, _⟩ ?_ rfl ?_ (by assumption) ?_
  rotate_left
  · (intro w hSw; (try dsimp only at hSw); go_simp; all_goals with_reducible rfl)
  try simp only [Act.put, sA, sB, sC]
  refine tkH 7 ⟨some 147, _, _, _, _, _⟩ ?_ rfl ?_ (by assumption) ?_
  rotate_left
  · (intro w hSw; (try dsimp only at hSw); go_simp; all_goals with_reducible rfl)
  try simp only [Act.put, sA, sB, sC]
  refine tkH 8 ⟨some 148, _, _, _, _, _⟩ ?_ rfl ?_ (by assumption) ?_
  rotate_left
  · (intro w hSw; (try dsimp only at hSw); go_simp; all_goals with_reducible rfl)
  try simp only [Act.put, sA, sB, sC]
  refine tkH 9 ⟨some 149, _, _, _, _, _⟩ ?_ rfl ?_ (by assumption) ?_
  rotate_left
  · (intro w hSw; (try dsimp only at hSw); go_simp; all_goals with_reducible rfl)
  try simp only [Act.put, sA, sB, sC]
  refine tkH 10 ⟨some 150, _, _, _, _, _⟩ ?_ rfl ?_ (by assumption) ?_
  rotate_left
  · (intro w hSw; (try dsimp only at hSw); go_simp; all_goals with_reducible rfl)
  try simp only [Act.put, sA, sB, sC]
  refine tkH 11 ⟨some 151, _, _, _, _, _⟩ ?_ rfl ?_ (by assumption) ?_
  rotate_left
  · (intro w hSw; (try dsimp only at hSw); go_simp; all_goals with_reducible rfl)
  try simp only [Act.put, sA, sB, sC]
  refine tkH 12 ⟨some 152, _, _, _, _, _⟩ ?_ rfl ?_ (by assumption) ?_
  rotate_left
  · (intro w hSw; (try dsimp only at hSw); go_simp; all_goals with_reducible rfl)
  try simp only [Act.put, sA, sB, sC]
  refine tkH 13 ⟨some 153, _, _, _, _, _⟩ ?_ rfl ?_ (by assumption) ?_
  rotate_left
  · (intro w hSw; (try dsimp only at hSw); go_simp; all_goals with_reducible rfl)
  try simp only [Act.put, sA, sB, sC]
  refine tkH 14 ⟨some 154, _, _, _, _, _⟩ ?_ rfl ?_ (by assumption) ?_
  rotate_left
  · (intro w hSw; (try dsimp only at hSw); go_simp; all_goals with_reducible rfl)
  try simp only [Act.put, sA, sB, sC]
  refine tkH 15 ⟨some 155, _, _, _, _, _⟩ ?_ rfl ?_ (by assumption) ?_
  rotate_left
  · (intro w hSw; (try dsimp only at hSw); go_simp; all_goals with_reducible rfl)
  try simp only [Act.put, sA, sB, sC]
  refine tkH 16 ⟨some 156, _, _, _, _, _⟩ ?_ rfl ?_ (by assumption) ?_
  rotate_left
  · (intro w hSw; (try dsimp only at hSw); go_simp; all_goals with_reducible rfl)
  try simp only [Act.put, sA, sB, sC]
  refine tkH 17 ⟨some 157, _, _, _, _, _⟩ ?_ rfl ?_ (by assumption) ?_
  rotate_left
  · (intro w hSw; (try dsimp only at hSw); go_simp; all_goals with_reducible rfl)
  try simp only [Act.put, sA, sB, sC]
  refine tkH 18 ⟨some 158, _, _, _, _, _⟩ ?_ rfl ?_ (by assumption) ?_
  rotate_left
  · (intro w hSw; (try dsimp only at hSw); go_simp; all_goals with_reducible rfl)
  try simp only [Act.put, sA, sB, sC]
  refine tkH 19 ⟨some 159, _, _, _, _, _⟩ ?_ rfl ?_ (by assumption) ?_
  rotate_left
  · (intro w hSw; (try dsimp only at hSw); go_simp; all_goals with_reducible rfl)
  try simp only [Act.put, sA, sB, sC]
  refine tkH 20 ⟨some 160, _, _, _, _, _⟩ ?_ rfl ?_ (by assumption) ?_
  rotate_left
  · (intro w hSw; (try dsimp only at hSw); go_simp; all_goals with_reducible rfl)
  try simp only [Act.put, sA, sB, sC]
  refine wpAnyH_done (by kernel_rfl) ?_ _
  have hc18 : Below y16v2.heap.size y16v2 y17v1 := hT1
  have hB18 : Below w.heap.size w y17v1 := hB17.trans (hc18.mono hB17.size)
  have zu18 := hB18.size
  replace HL := Lib.hid (HL.out.below hc18)
  replace HU := Lib.hid (HU.out.below hc18)
  replace PB := Lib.hid (PB.out.below hc18)
  replace RB := Lib.hid (RB.out.below hc18)
  replace QB := Lib.hid (QB.out.below hc18)
  clear PB_17_0 PB_17_1 PB_17_2 PB_17_3 lPB_17 nPB_17 mPB_17 RB_17_0 RB_17_1 RB_17_2 RB_17_3 RB_17_4 RB_17_5 RB_17_6 RB_17_7 RB_17_8 lRB_17 nRB_17 mRB_17 QB_17_0 QB_17_1 lQB_17 nQB_17 mQB_17
  clear HS hHeld hT0 hT1 hB17 zu17 hc17
  obtain ⟨PB_18_0, PB_18_1, PB_18_2, PB_18_3⟩ := b4 PB.out
  have lPB_18 := PB.out.lt
  have nPB_18 : y17v1.heap.size ≠ w.heap.size := by omega
  have mPB_18 : w.heap.size ≠ y17v1.heap.size := by omega
  obtain ⟨RB_18_0, RB_18_1, RB_18_2, RB_18_3, RB_18_4, RB_18_5, RB_18_6, RB_18_7, RB_18_8⟩ := b9 RB.out
  have lRB_18 := RB.out.lt
  have nRB_18 : y17v1.heap.size ≠ w.heap.size + 1 := by omega
  have mRB_18 : w.heap.size + 1 ≠ y17v1.heap.size := by omega
  obtain ⟨QB_18_0, QB_18_1⟩ := b2 QB.out
  have lQB_18 := QB.out.lt
  have nQB_18 : y17v1.heap.size ≠ x12.heap.size := by omega
  have mQB_18 : x12.heap.size ≠ y17v1.heap.size := by omega
  clear g0 g1 llb lub
  go_wp2_with fail
  refine (copyP_is nm s G D A B gn gc dn dc _ hgn hdn hg6 hd6 (Lib.hid (hG.out.below (by (repeat (first | (with_reducible refine Below.drew ?_) | (with_reducible refine below_drewN ?_ _) | (with_reducible refine Below.alloc ?_ (by first | omega | (simp; done) | (simp; omega) | (simp at *; omega)) _) | (with_reducible refine Below.setCell ?_ (by first | omega | (simp; done) | (simp; omega) | (simp at *; omega)) _) | (with_reducible exact Below.refl _ _) | (with_reducible assumption) | (with_reducible refine Below.trans ?_ (Below.mono (by assumption) (by first | omega | (simp; done) | (simp; omega) | (simp at *; omega))))))))) (Lib.hid (hD.out.below (by (repeat (first | (with_reducible refine Below.drew ?_) | (with_reducible refine below_drewN ?_ _) | (with_reducible refine Below.alloc ?_ (by first | omega | (simp; done) | (simp; omega) | (simp at *; omega)) _) | (with_reducible refine Below.setCell ?_ (by first | omega | (simp; done) | (simp; omega) | (simp at *; omega)) _) | (with_reducible exact Below.refl _ _) | (with_reducible assumption) | (with_reducible refine Below.trans ?_ (Below.mono (by assumption) (by first | omega | (simp; done) | (simp; omega) | (simp at *; omega))))))))) CG CD).mono ?_
  rintro e x19 ⟨A6, ca6, B6, cb6, rfl, hsg, hsd, hna, hnb, hb19⟩
  have hc19 : Below y17v1.heap.size y17v1 x19 := hb19
  have hB19 : Below w.heap.size w x19 := hB18.trans (hc19.mono hB18.size)
  have zu19 := hB19.size
  replace HL := Lib.hid (HL.out.below hc19)
  replace HU := Lib.hid (HU.out.below hc19)
  replace PB := Lib.hid (PB.out.below hc19)
  replace RB := Lib.hid (RB.out.below hc19)
  replace QB := Lib.hid (QB.out.below hc19)
  have HG6 := Lib.hid hsg
  have HD6 := Lib.hid hsd
  clear hsg hsd hna hnb
  clear PB_18_0 PB_18_1 PB_18_2 PB_18_3 lPB_18 nPB_18 mPB_18 RB_18_0 RB_18_1 RB_18_2 RB_18_3 RB_18_4 RB_18_5 RB_18_6 RB_18_7 RB_18_8 lRB_18 nRB_18 mRB_18 QB_18_0 QB_18_1 lQB_18 nQB_18 mQB_18
  clear hb19 hB18 zu18 hc18
  obtain ⟨PB_19_0, PB_19_1, PB_19_2, PB_19_3⟩ := b4 PB.out
  have lPB_19 := PB.out.lt
  have nPB_19 : x19.heap.size ≠ w.heap.size := by omega
  have mPB_19 : w.heap.size ≠ x19.heap.size := by omega
  obtain ⟨RB_19_0, RB_19_1, RB_19_2, RB_19_3, RB_19_4, RB_19_5, RB_19_6, RB_19_7, RB_19_8⟩ := b9 RB.out
  have lRB_19 := RB.out.lt
  have nRB_19 : x19.heap.size ≠ w.heap.size + 1 := by omega
  have mRB_19 : w.heap.size + 1 ≠ x19.heap.size := by omega
  obtain ⟨QB_19_0, QB_19_1⟩ := b2 QB.out
  have lQB_19 := QB.out.lt
  have nQB_19 : x19.heap.size ≠ x12.heap.size := by omega
  have mQB_19 : x12.heap.size ≠ x19.heap.size := by omega
  obtain ⟨gb6, gf6, hA6, _, _⟩ := HG6.out.at' (k := 0) hG0
  obtain ⟨lb6, lf6, hB6e, _, _⟩ := HD6.out.at' (k := 0) hD0
  subst hA6
  subst hB6e
  go_wp2_with fail
  refine (Before_ok nm s G D gb6 gf6 lb6 lf6 gn ca6 dn cb6 N kk t xa ya xb yb num den lo hi nb DB _ hz hgn hgl hdn hdl HG6 HD6 hE0 hok ht0 ht1 hk hk2 hk3 hxa hya hxb hyb a0 a1 a2 a3 ax e0 e1 f0 f1 hnum hden hlo hhi hn0 hn1 hwh hnb hnd hbeg hend hcut hfull).mono ?_
  rintro e x20 ⟨G9, cg, L9, cl9, rfl, hsg, hsl, hb20⟩
  have hc20 : Below x19.heap.size x19 x20 := hb20
  have hB20 : Below w.heap.size w x20 := hB19.trans (hc20.mono hB19.size)
  have zu20 := hB20.size
  replace HL := Lib.hid (HL.out.below hc20)
  replace HU := Lib.hid (HU.out.below hc20)
  replace HG6 := Lib.hid (HG6.out.below hc20)
  replace HD6 := Lib.hid (HD6.out.below hc20)
  replace PB := Lib.hid (PB.out.below hc20)
  replace RB := Lib.hid (RB.out.below hc20)
  replace QB := Lib.hid (QB.out.below hc20)
  have HG9 := Lib.hid hsg
  have HL9 := Lib.hid hsl
  clear hsg hsl
  clear PB_19_0 PB_19_1 PB_19_2 PB_19_3 lPB_19 nPB_19 mPB_19 RB_19_0 RB_19_1 RB_19_2 RB_19_3 RB_19_4 RB_19_5 RB_19_6 RB_19_7 RB_19_8 lRB_19 nRB_19 mRB_19 QB_19_0 QB_19_1 lQB_19 nQB_19 mQB_19
  clear hb20 hB19 zu19 hc19
  obtain ⟨PB_20_0, PB_20_1, PB_20_2, PB_20_3⟩ := b4 PB.out
  have lPB_20 := PB.out.lt
  have nPB_20 : x20.heap.size ≠ w.heap.size := by omega
  have mPB_20 : w.heap.size ≠ x20.heap.size := by omega
  obtain ⟨RB_20_0, RB_20_1, RB_20_2, RB_20_3, RB_20_4, RB_20_5, RB_20_6, RB_20_7, RB_20_8⟩ := b9 RB.out
  have lRB_20 := RB.out.lt
  have nRB_20 : x20.heap.size ≠ w.heap.size + 1 := by omega
  have mRB_20 : w.heap.size + 1 ≠ x20.heap.size := by omega
  obtain ⟨QB_20_0, QB_20_1⟩ := b2 QB.out
  have lQB_20 := QB.out.lt
  have nQB_20 : x20.heap.size ≠ x12.heap.size := by omega
  have mQB_20 : x12.heap.size ≠ x20.heap.size := by omega
  clear HG6
  clear HD6
  go_upto_region 17 with (fail)
  refine wp_worldE (fun u => Below x20.heap.size x20 u ∧ BlkF u w.heap.size (x20.heap.size) [.string nm, .int .i64 s, .slice G9 gn cg, .slice L9 nb cl9]) ⟨(Below.refl _ _).alloc (by first | exact Nat.le_refl _ | (simp; done) | (simp; omega)) _, BlkF.made (B := w.heap.size) x20 [.string nm, .int .i64 s, .slice G9 gn cg, .slice L9 nb cl9] 25 (by first | exact Nat.le_refl _ | exact hB20.size | (simp; done) | (simp; omega))⟩ (fun x21 hu21 => ?_)
  obtain ⟨hc21, qBB⟩ := hu21
  have BB := Lib.hid qBB
  clear qBB
  have hB21 : Below w.heap.size w x21 := hB20.trans (hc21.mono hB20.size)
  have zu21 := hB21.size
  replace HL := Lib.hid (HL.out.below hc21)
  replace HU := Lib.hid (HU.out.below hc21)
  replace HG9 := Lib.hid (HG9.out.below hc21)
  replace HL9 := Lib.hid (HL9.out.below hc21)
  replace PB := Lib.hid (PB.out.below hc21)
  replace RB := Lib.hid (RB.out.below hc21)
  replace QB := Lib.hid (QB.out.below hc21)
  clear PB_20_0 PB_20_1 PB_20_2 PB_20_3 lPB_20 nPB_20 mPB_20 RB_20_0 RB_20_1 RB_20_2 RB_20_3 RB_20_4 RB_20_5 RB_20_6 RB_20_7 RB_20_8 lRB_20 nRB_20 mRB_20 QB_20_0 QB_20_1 lQB_20 nQB_20 mQB_20
  clear hB20 zu20 hc20
  obtain ⟨PB_21_0, PB_21_1, PB_21_2, PB_21_3⟩ := b4 PB.out
  have lPB_21 := PB.out.lt
  have nPB_21 : x21.heap.size ≠ w.heap.size := by omega
  have mPB_21 : w.heap.size ≠ x21.heap.size := by omega
  obtain ⟨RB_21_0, RB_21_1, RB_21_2, RB_21_3, RB_21_4, RB_21_5, RB_21_6, RB_21_7, RB_21_8⟩ := b9 RB.out
  have lRB_21 := RB.out.lt
  have nRB_21 : x21.heap.size ≠ w.heap.size + 1 := by omega
  have mRB_21 : w.heap.size + 1 ≠ x21.heap.size := by omega
  obtain ⟨QB_21_0, QB_21_1⟩ := b2 QB.out
  have lQB_21 := QB.out.lt
  have nQB_21 : x21.heap.size ≠ x12.heap.size := by omega
  have mQB_21 : x12.heap.size ≠ x21.heap.size := by omega
  obtain ⟨BB_21_0, BB_21_1, BB_21_2, BB_21_3⟩ := b4 BB.out
  have lBB_21 := BB.out.lt
  have nBB_21 : x21.heap.size ≠ x20.heap.size := by omega
  have mBB_21 : x20.heap.size ≠ x21.heap.size := by omega
  have HS : Hid (∀ y, Below x21.heap.size x21 y → y.cell? ⟨w.heap.size, 0, none⟩ = some (.string nm) ∧ y.cell? ⟨w.heap.size, 1, none⟩ = some (.int .i64 s) ∧ y.cell? ⟨w.heap.size, 2, none⟩ = some (.slice A gn gc) ∧ y.cell? ⟨w.heap.size, 3, none⟩ = some (.slice B dn dc) ∧ y.cell? ⟨w.heap.size + 1, 0, none⟩ = some (.slice AT tn tc) ∧ y.cell? ⟨w.heap.size + 1, 1, none⟩ = some (.int .i64 r.a) ∧ y.cell? ⟨w.heap.size + 1, 2, none⟩ = some (.int .i64 r.b) ∧ y.cell? ⟨w.heap.size + 1, 3, none⟩ = some (.int .i64 r.nc) ∧ y.cell? ⟨w.heap.size + 1, 4, none⟩ = some (.int .i64 r.dn) ∧ y.cell? ⟨w.heap.size + 1, 5, none⟩ = some (.int .i64 r.br) ∧ y.cell? ⟨w.heap.size + 1, 6, none⟩ = some (.int .i64 r.em) ∧ y.cell? ⟨w.heap.size + 1, 7, none⟩ = some (.int .i64 r.pa) ∧ y.cell? ⟨w.heap.size + 1, 8, none⟩ = some (.int .i64 r.sc) ∧ y.cell? ⟨x12.heap.size, 0, none⟩ = some (.int .i64 lo) ∧ y.cell? ⟨x12.heap.size, 1, none⟩ = some (.int .i64 hi) ∧ y.cell? ⟨x20.heap.size, 0, none⟩ = some (.string nm) ∧ y.cell? ⟨x20.heap.size, 1, none⟩ = some (.int .i64 s) ∧ y.cell? ⟨x20.heap.size, 2, none⟩ = some (.slice G9 gn cg) ∧ y.cell? ⟨x20.heap.size, 3, none⟩ = some (.slice L9 nb cl9)) := Lib.hid fun y hy => ⟨(hy.cell (p := ⟨w.heap.size, 0, none⟩) lPB_21).trans PB_21_0, (hy.cell (p := ⟨w.heap.size, 1, none⟩) lPB_21).trans PB_21_1, (hy.cell (p := ⟨w.heap.size, 2, none⟩) lPB_21).trans PB_21_2, (hy.cell (p := ⟨w.heap.size, 3, none⟩) lPB_21).trans PB_21_3, (hy.cell (p := ⟨w.heap.size + 1, 0, none⟩) lRB_21).trans RB_21_0, (hy.cell (p := ⟨w.heap.size + 1, 1, none⟩) lRB_21).trans RB_21_1, (hy.cell (p := ⟨w.heap.size + 1, 2, none⟩) lRB_21).trans RB_21_2, (hy.cell (p := ⟨w.heap.size + 1, 3, none⟩) lRB_21).trans RB_21_3, (hy.cell (p := ⟨w.heap.size + 1, 4, none⟩) lRB_21).trans RB_21_4, (hy.cell (p := ⟨w.heap.size + 1, 5, none⟩) lRB_21).trans RB_21_5, (hy.cell (p := ⟨w.heap.size + 1, 6, none⟩) lRB_21).trans RB_21_6, (hy.cell (p := ⟨w.heap.size + 1, 7, none⟩) lRB_21).trans RB_21_7, (hy.cell (p := ⟨w.heap.size + 1, 8, none⟩) lRB_21).trans RB_21_8, (hy.cell (p := ⟨x12.heap.size, 0, none⟩) lQB_21).trans QB_21_0, (hy.cell (p := ⟨x12.heap.size, 1, none⟩) lQB_21).trans QB_21_1, (hy.cell (p := ⟨x20.heap.size, 0, none⟩) lBB_21).trans BB_21_0, (hy.cell (p := ⟨x20.heap.size, 1, none⟩) lBB_21).trans BB_21_1, (hy.cell (p := ⟨x20.heap.size, 2, none⟩) lBB_21).trans BB_21_2, (hy.cell (p := ⟨x20.heap.size, 3, none⟩) lBB_21).trans BB_21_3⟩
  refine wp_region_held_drew (S := (fun w' => w'.cell? ⟨w.heap.size, 0, none⟩ = some (.string nm) ∧ w'.cell? ⟨w.heap.size, 1, none⟩ = some (.int .i64 s) ∧ w'.cell? ⟨w.heap.size, 2, none⟩ = some (.slice A gn gc) ∧ w'.cell? ⟨w.heap.size, 3, none⟩ = some (.slice B dn dc) ∧ w'.cell? ⟨w.heap.size + 1, 0, none⟩ = some (.slice AT tn tc) ∧ w'.cell? ⟨w.heap.size + 1, 1, none⟩ = some (.int .i64 r.a) ∧ w'.cell? ⟨w.heap.size + 1, 2, none⟩ = some (.int .i64 r.b) ∧ w'.cell? ⟨w.heap.size + 1, 3, none⟩ = some (.int .i64 r.nc) ∧ w'.cell? ⟨w.heap.size + 1, 4, none⟩ = some (.int .i64 r.dn) ∧ w'.cell? ⟨w.heap.size + 1, 5, none⟩ = some (.int .i64 r.br) ∧ w'.cell? ⟨w.heap.size + 1, 6, none⟩ = some (.int .i64 r.em) ∧ w'.cell? ⟨w.heap.size + 1, 7, none⟩ = some (.int .i64 r.pa) ∧ w'.cell? ⟨w.heap.size + 1, 8, none⟩ = some (.int .i64 r.sc) ∧ w'.cell? ⟨x12.heap.size, 0, none⟩ = some (.int .i64 lo) ∧ w'.cell? ⟨x12.heap.size, 1, none⟩ = some (.int .i64 hi) ∧ w'.cell? ⟨x20.heap.size, 0, none⟩ = some (.string nm) ∧ w'.cell? ⟨x20.heap.size, 1, none⟩ = some (.int .i64 s) ∧ w'.cell? ⟨x20.heap.size, 2, none⟩ = some (.slice G9 gn cg) ∧ w'.cell? ⟨x20.heap.size, 3, none⟩ = some (.slice L9 nb cl9))) (by kernel_rfl) (HS.out _ (Below.refl _ _).drew) (fun hHeld => ?_)
  have hT0 : Below x21.heap.size x21 x21.drew := (Below.refl _ _).drew
  replace HG9 := Lib.hid (HG9.out.below (Below.refl x21.heap.size x21).drew)
  replace HL9 := Lib.hid (HL9.out.below (Below.refl x21.heap.size x21).drew)
  generalize hdr : x21.drew = y21v0 at *
  clear hdr
  refine tkH 0 ⟨some 173, _, _, _, _, _⟩ ?_ rfl ?_ (by assumption) ?_
  rotate_left
  · (intro w hSw; (try dsimp only at hSw); go_simp; all_goals with_reducible rfl)
  try simp only [Act.put, sA, sB, sC]
  refine tkH 1 ⟨some 174, _, _, _, _, _⟩ ?_ rfl ?_ (by assumption) ?_
  rotate_left
  · (intro w hSw; (try dsimp only at hSw); go_simp; all_goals with_reducible rfl)
  try simp only [Act.put, sA, sB, sC]
  refine wpAnyH_ready (rs := [2]) (by kernel_rfl) (by simp) ?_
  refine AllReadyH.cons rfl (fun K hK => ?_) (AllReadyH.nil)
  go_simp
  refine (copyR_is T r AT tn tc _ htn ht6 (Lib.hid (hT.out.below (hB21.trans (hT0.mono hB21.size)))) CT).mono ?_
  rintro e y21v1 ⟨AT7, ct7, rfl, hst, hby21v0⟩
  have hT1 : Below x21.heap.size x21 y21v1 := hT0.trans (hby21v0.mono hT0.size)
  replace HG9 := Lib.hid (HG9.out.below hby21v0)
  replace HL9 := Lib.hid (HL9.out.below hby21v0)
  have HT7 := Lib.hid hst
  clear hst
  clear hby21v0
  go_wp2_with fail
  refine hK.out _ _ (HS.out _ hT1) (fun hHeld => ?_)
  clear hK K
  try simp only [Act.put, sA, sB, sC]
  refine wpAnyH_ready (rs := [3]) (by kernel_rfl) (by simp) ?_
  refine AllReadyH.cons rfl (fun K hK => ?_) (AllReadyH.nil)
  go_simp
  refine (cl_good (Reserves_any nm s G DB G9 L9 gn cg nb cl9 T r AT7 tn ct7 gH vH sH MM 0 0 0 0 _ hz hgn hgl hnb hnl HG9 HL9 htn htl HT7 hE90 hE1 hE9x hFH hMM) rfl).mono ?_
  rintro e y21v2 ⟨mb, cm, rfl, hsm, hmge, hby21v1⟩
  have hT2 : Below x21.heap.size x21 y21v2 := hT1.trans (hby21v1.mono hT1.size)
  replace HG9 := Lib.hid (HG9.out.below hby21v1)
  replace HL9 := Lib.hid (HL9.out.below hby21v1)
  replace HT7 := Lib.hid (HT7.out.below hby21v1)
  rw [hm9.out] at hsm
  have HM := Lib.hid hsm
  clear hsm hmge
  clear hby21v1
  go_wp2_with fail
  refine hK.out _ _ (HS.out _ hT2) (fun hHeld => ?_)
  clear hK K
  try simp only [Act.put, sA, sB, sC]
  refine tkH 4 ⟨some 172, _, _, _, _, _⟩ ?_ rfl ?_ (by assumption) ?_
  rotate_left
  · (intro w hSw; (try dsimp only at hSw); go_simp; all_goals with_reducible rfl)
  try simp only [Act.put, sA, sB, sC]
  refine tkH 5 ⟨some 177, _, _, _, _, _⟩ ?_ rfl ?_ (by assumption) ?_
  rotate_left
  · (intro w hSw; (try dsimp only at hSw); go_simp; all_goals with_reducible rfl)
  try simp only [Act.put, sA, sB, sC]
  refine tkH 6 ⟨some 178, _, _, _, _, _⟩ ?_ rfl ?_ (by assumption) ?_
  rotate_left
  · (intro w hSw; (try dsimp only at hSw); go_simp; all_goals with_reducible rfl)
  try simp only [Act.put, sA, sB, sC]
  refine tkH 7 ⟨some 19, _, _, _, _, _⟩ ?_ rfl ?_ (by assumption) ?_
  rotate_left
  · (intro w hSw; (try dsimp only at hSw); go_simp; all_goals with_reducible rfl)
  try simp only [Act.put, sA, sB, sC]
  refine tkH 8 ⟨some 20, _, _, _, _, _⟩ ?_ rfl ?_ (by assumption) ?_
  rotate_left
  · (intro w hSw; (try dsimp only at hSw); go_simp; all_goals with_reducible rfl)
  try simp only [Act.put, sA, sB, sC]
  refine wpAnyH_done (by kernel_rfl) ?_ _
  have hc22 : Below x21.heap.size x21 y21v2 := hT2
  have hB22 : Below w.heap.size w y21v2 := hB21.trans (hc22.mono hB21.size)
  have zu22 := hB22.size
  replace HL := Lib.hid (HL.out.below hc22)
  replace HU := Lib.hid (HU.out.below hc22)
  replace PB := Lib.hid (PB.out.below hc22)
  replace RB := Lib.hid (RB.out.below hc22)
  replace QB := Lib.hid (QB.out.below hc22)
  replace BB := Lib.hid (BB.out.below hc22)
  clear PB_21_0 PB_21_1 PB_21_2 PB_21_3 lPB_21 nPB_21 mPB_21 RB_21_0 RB_21_1 RB_21_2 RB_21_3 RB_21_4 RB_21_5 RB_21_6 RB_21_7 RB_21_8 lRB_21 nRB_21 mRB_21 QB_21_0 QB_21_1 lQB_21 nQB_21 mQB_21 BB_21_0 BB_21_1 BB_21_2 BB_21_3 lBB_21 nBB_21 mBB_21
  clear HS hHeld hT0 hT1 hT2 hB21 zu21 hc21
  obtain ⟨PB_22_0, PB_22_1, PB_22_2, PB_22_3⟩ := b4 PB.out
  have lPB_22 := PB.out.lt
  have nPB_22 : y21v2.heap.size ≠ w.heap.size := by omega
  have mPB_22 : w.heap.size ≠ y21v2.heap.size := by omega
  obtain ⟨RB_22_0, RB_22_1, RB_22_2, RB_22_3, RB_22_4, RB_22_5, RB_22_6, RB_22_7, RB_22_8⟩ := b9 RB.out
  have lRB_22 := RB.out.lt
  have nRB_22 : y21v2.heap.size ≠ w.heap.size + 1 := by omega
  have mRB_22 : w.heap.size + 1 ≠ y21v2.heap.size := by omega
  obtain ⟨QB_22_0, QB_22_1⟩ := b2 QB.out
  have lQB_22 := QB.out.lt
  have nQB_22 : y21v2.heap.size ≠ x12.heap.size := by omega
  have mQB_22 : x12.heap.size ≠ y21v2.heap.size := by omega
  obtain ⟨BB_22_0, BB_22_1, BB_22_2, BB_22_3⟩ := b4 BB.out
  have lBB_22 := BB.out.lt
  have nBB_22 : y21v2.heap.size ≠ x20.heap.size := by omega
  have mBB_22 : x20.heap.size ≠ y21v2.heap.size := by omega
  clear HG9
  clear HL9
  clear HT7
  clear PB_22_0 PB_22_1 PB_22_2 PB_22_3 lPB_22 nPB_22 mPB_22 RB_22_0 RB_22_1 RB_22_2 RB_22_3 RB_22_4 RB_22_5 RB_22_6 RB_22_7 RB_22_8 lRB_22 nRB_22 mRB_22 QB_22_0 QB_22_1 lQB_22 nQB_22 mQB_22 BB_22_0 BB_22_1 BB_22_2 BB_22_3 lBB_22 nBB_22 mBB_22
  have llX : lb < y21v2.heap.size := by rcases HL.out with h | ⟨b, o, e, hl, _⟩; (rw [h] at hgl9; simp at hgl9); (cases e; exact hl)
  have lmX : mb < y21v2.heap.size := by rcases HM.out with h | ⟨b, o, e, hl, _⟩; (exfalso; have h5 := hml.out; rw [h] at h5; have h6 : (0 : Nat) = gn := h5; omega); (cases e; exact hl)
  have HBX := Lib.hid hB22
  clear hB22 zu22 hc22
  go_wp2_with fail
  go_loopw [21] (fun i wr => ∃ j : Nat, j ≤ gn ∧ i = .int .i64 j ∧ Below y21v2.heap.size y21v2 wr) (fun i _ => gn - (intOf i).toNat)
  case atStart => exact ⟨0, by omega, rfl, Below.refl _ _⟩
  case round =>
    obtain ⟨j, hj, rfl, hB⟩ := hrel
    have zb := hB.size
    by_cases hjn : j < gn
    · have kn : (j : Int) < (gn : Int) := by omega
      have k0 : ¬ (j : Int) < 0 := by omega
      obtain ⟨p9, hp9⟩ : ∃ z, Hid ((m9.getD j (0, -1)).1 = z) := ⟨_, Lib.hid rfl⟩
      obtain ⟨b9, hb9⟩ : ∃ z, Hid ((l9.getD j (0, -1)).1 = z) := ⟨_, Lib.hid rfl⟩
      have hng : ¬ b9 < p9 := by have := hle.out j hjn; rw [hp9.out, hb9.out] at this; omega
      have e0' := (sl_nvT (HM.out.below hB) (by rw [hml.out]; exact hjn) hp9.out rfl).1
      have e1' := (sl_nvT (HL.out.below hB) (by rw [hll.out]; exact hjn) hb9.out rfl).1
      have l1 : lb < wr.heap.size := by omega
      have l2 : mb < wr.heap.size := by omega
      have HS : Hid (∀ y, Below wr.heap.size wr y → y.cell? ⟨mb, j * 2, none⟩ = some (.int .i64 p9) ∧ y.cell? ⟨lb, j * 2, none⟩ = some (.int .i64 b9)) := Lib.hid fun y hy => ⟨(hy.cell (p := ⟨mb, j * 2, none⟩) l2).trans e0', (hy.cell (p := ⟨lb, j * 2, none⟩) l1).trans e1'⟩
      have hwk : IntKind.i64.wrap ((j : Int) + 1) = (j : Int) + 1 := IntWalk.i64_in _ (by omega)
      clear e0' e1'
      go_upto_region 23 with (fail)
      refine wp_region_held_drew (S := (fun w' => w'.cell? ⟨mb, j * 2, none⟩ = some (.int .i64 p9) ∧ w'.cell? ⟨lb, j * 2, none⟩ = some (.int .i64 b9))) (by kernel_rfl) (HS.out _ (Below.refl _ _).drew) (fun hHeld => ?_)
      have hT0 : Below wr.heap.size wr wr.drew := (Below.refl _ _).drew
      generalize hdr : wr.drew = v0 at *
      clear hdr
      refine tkH 0 ⟨some 194, _, _, _, _, _⟩ ?_ rfl ?_ (by assumption) ?_
      rotate_left
      · (intro w hSw; (try dsimp only at hSw); go_simp; all_goals with_reducible rfl)
      try simp only [Act.put, sA, sB, sC]
      refine tkH 1 ⟨some 195, _, _, _, _, _⟩ ?_ rfl ?_ (by assumption) ?_
      rotate_left
      · (intro w hSw; (try dsimp only at hSw); go_simp; all_goals with_reducible rfl)
      try simp only [Act.put, sA, sB, sC]
      refine tkH 2 ⟨some 196, _, _, _, _, _⟩ ?_ rfl ?_ (by assumption) ?_
      rotate_left
      · (intro w hSw; (try dsimp only at hSw); go_simp; all_goals with_reducible rfl)
      try simp only [Act.put, sA, sB, sC]
      refine tkH 3 ⟨some 197, _, _, _, _, _⟩ ?_ rfl ?_ (by assumption) ?_
      rotate_left
      · (intro w hSw; (try dsimp only at hSw); go_simp; all_goals with_reducible rfl)
      try simp only [Act.put, sA, sB, sC]
      refine tkH 4 ⟨some 198, _, _, _, _, _⟩ ?_ rfl ?_ (by assumption) ?_
      rotate_left
      · (intro w hSw; (try dsimp only at hSw); go_simp; all_goals with_reducible rfl)
      try simp only [Act.put, sA, sB, sC]
      refine tkH 5 ⟨some 199, _, _, _, _, _⟩ ?_ rfl ?_ (by assumption) ?_
      rotate_left
      · (intro w hSw; (try dsimp only at hSw); go_simp; all_goals with_reducible rfl)
      try simp only [Act.put, sA, sB, sC]
      refine tkH 6 ⟨some 200, _, _, _, _, _⟩ ?_ rfl ?_ (by assumption) ?_
      rotate_left
      · (intro w hSw; (try dsimp only at hSw); go_simp; all_goals with_reducible rfl)
      try simp only [Act.put, sA, sB, sC]
      refine tkH 7 ⟨some 201, _, _, _, _, _⟩ ?_ rfl ?_ (by assumption) ?_
      rotate_left
      · (intro w hSw; (try dsimp only at hSw); go_simp; all_goals with_reducible rfl)
      try simp only [Act.put, sA, sB, sC]
      refine tkH 8 ⟨some 202, _, _, _, _, _⟩ ?_ rfl ?_ (by assumption) ?_
      rotate_left
      · (intro w hSw; (try dsimp only at hSw); go_simp; all_goals with_reducible rfl)
      try simp only [Act.put, sA, sB, sC]
      refine tkH 9 ⟨some 203, _, _, _, _, _⟩ ?_ rfl ?_ (by assumption) ?_
      rotate_left
      · (intro w hSw; (try dsimp only at hSw); go_simp; all_goals with_reducible rfl)
      try simp only [Act.put, sA, sB, sC]
      refine tkH 10 ⟨some 204, _, _, _, _, _⟩ ?_ rfl ?_ (by assumption) ?_
      rotate_left
      · (intro w hSw; (try dsimp only at hSw); go_simp; all_goals with_reducible rfl)
      try simp only [Act.put, sA, sB, sC]
      refine wpAnyH_done (by kernel_rfl) ?_ _
      have hT9 := hT0
      obtain ⟨z, rfl⟩ : ∃ z, z = v0 := ⟨_, rfl⟩
      clear hHeld HS
      have hBz := Lib.hid (hB.trans (hT9.mono hB.size))
      clear hT9
      go_wp2
      go_roundw
      case rel => exact ⟨j + 1, by omega, by go_num, hBz.out⟩
      case measure => simp [intOf]; omega
    · have kn : ¬ (j : Int) < (gn : Int) := by omega
      go_wp2
      go_ret
      first | exact ⟨rfl, HBX.out.trans (hB.mono HBX.out.size)⟩ | (simp; exact HBX.out.trans (hB.mono HBX.out.size))
end Go.Proofs.Ytgidmmmdpmophaa
