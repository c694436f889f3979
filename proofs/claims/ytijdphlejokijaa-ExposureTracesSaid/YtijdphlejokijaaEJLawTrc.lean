import Derived.Test.YtijdphlejokijaaEJERct
import Derived.Test.YtijdphlejokijaaEJECpP
import Derived.Test.YtijdphlejokijaaEJEAwk
import Derived.Test.YtijdphlejokijaaEJEInts
import Derived.Outline
namespace Go.Proofs.Ytijdphlejokijaa
open Go.ChangeShapes Go.WideShapes Go.ChangeAt Go.RowKit
set_option linter.unusedVariables false
set_option linter.unusedSimpArgs false
attribute [local go_sem ↓] Go.wp_at_zero Go.wp_at_succ
theorem cl_bad {P : Program} {f : FuncId} {args : Array Value} {w : World} {E : Int} {R Q : Ending → World → Prop} (h : Calls P f args w fun e w' => (¬ E = 0 ∧ R e w') ∨ (E = 0 ∧ Q e w')) (h0 : ¬ E = 0) : Calls P f args w R := h.mono fun e w' h => h.elim (fun h => h.2) (fun h => absurd h.1 h0)
theorem cl_good {P : Program} {f : FuncId} {args : Array Value} {w : World} {E : Int} {R Q : Ending → World → Prop} (h : Calls P f args w fun e w' => (¬ E = 0 ∧ R e w') ∨ (E = 0 ∧ Q e w')) (h0 : E = 0) : Calls P f args w Q := h.mono fun e w' h => h.elim (fun h => absurd h0 h.1) (fun h => h.2)
theorem Ints_same (L : List Int) (A B : Option Addr) (n ca cb : Nat) (w : World) (hn : Hid (n = L.length)) (hl : n ≤ 1000000) (hL : Hid (SlRows inV 1 w A L)) (hM : Hid (SlRows inV 1 w B L)) :
    Calls Try.prog 45 #[.slice A n ca, .slice B n cb] w fun e w' => e = .returned (.bool true) ∧ Below w.heap.size w w' :=
  (Ints_is L L A B n n ca cb w hn hn hl hl hL hM).mono fun e w' h => ⟨by rw [h.1]; simp, h.2⟩
set_option maxRecDepth 100000 in
set_option maxHeartbeats 8000000 in
theorem trc_out (nm : ByteArray) (s : Int) (G : List Ga) (D : List Le) (A B : Option Addr) (gn gc dn dc : Nat) (b t : Int) (sb : Bool) (N : Nat) (E0 S : Int) (w : World) (hz : nm.size ≤ 9223372036854775807) (hgn : Hid (gn = G.length)) (hgl : gn ≤ 9223372036854775807) (hdn : Hid (dn = D.length)) (hdl : dn ≤ 9223372036854775807) (hG : Hid (SlRows gaV 2 w A G)) (hD : Hid (SlRows leV 3 w B D)) (CG : Hid (A = none → gn = 0 ∧ gc = 0)) (CD : Hid (B = none → dn = 0 ∧ dc = 0)) (hS : Hid (shortB nm.size dn gn = sb)) (hE0 : Hid (plnP nm s G D = (N, E0))) (hSS : Hid (secT D dn = S)) (hp : Hid (briefV sb E0 (secT D dn) = false)) :
    Calls Try.prog 12 #[.agg #[.string nm, .int .i64 s, .slice A gn gc, .slice B dn dc], .int .i64 b, .int .i64 t] w fun e w' => e = .returned (.bool true) ∧ Below w.heap.size w w' := by
  go_enter Try.func12, Try.ntmps12
  go_wp2_with fail
  refine (awake_any _).mono ?_
  rintro e x1 ⟨rfl, hb1⟩
  have hc1 : Below w.heap.size w x1 := ((Below.refl _ _).alloc (by first | exact Nat.le_refl _ | (simp; done) | (simp; omega)) _).trans (hb1.mono (by first | exact Nat.le_refl _ | (simp; done) | (simp; omega)))
  have hB1 : Below w.heap.size w x1 := hc1
  have zu1 := hB1.size
  have PB : Hid (BlkF x1 w.heap.size (w.heap.size) [.string nm, .int .i64 s, .slice A gn gc, .slice B dn dc]) := Lib.hid ((BlkF.made (B := w.heap.size) w [.string nm, .int .i64 s, .slice A gn gc, .slice B dn dc] 40 (by first | exact Nat.le_refl _ | (simp; done) | (simp; omega))).below hb1)
  have zPB1 := PB.out.lt
  clear hb1
  obtain ⟨PB_1_0, PB_1_1, PB_1_2, PB_1_3⟩ := b4 PB.out
  have lPB_1 := PB.out.lt
  have nPB_1 : x1.heap.size ≠ w.heap.size := by omega
  have mPB_1 : w.heap.size ≠ x1.heap.size := by omega
  go_wp2_with fail
  refine (Brief_is nm s G D A B gn gc dn dc sb false N E0 _ hz hgn hgl hdn hdl (Lib.hid (hG.out.below (by (repeat (first | (with_reducible refine Below.drew ?_) | (with_reducible refine below_drewN ?_ _) | (with_reducible refine Below.alloc ?_ (by first | omega | (simp; done) | (simp; omega) | (simp at *; omega)) _) | (with_reducible refine Below.setCell ?_ (by first | omega | (simp; done) | (simp; omega) | (simp at *; omega)) _) | (with_reducible exact Below.refl _ _) | (with_reducible assumption) | (with_reducible refine Below.trans ?_ (Below.mono (by assumption) (by first | omega | (simp; done) | (simp; omega) | (simp at *; omega))))))))) (Lib.hid (hD.out.below (by (repeat (first | (with_reducible refine Below.drew ?_) | (with_reducible refine below_drewN ?_ _) | (with_reducible refine Below.alloc ?_ (by first | omega | (simp; done) | (simp; omega) | (simp at *; omega)) _) | (with_reducible refine Below.setCell ?_ (by first | omega | (simp; done) | (simp; omega) | (simp at *; omega)) _) | (with_reducible exact Below.refl _ _) | (with_reducible assumption) | (with_reducible refine Below.trans ?_ (Below.mono (by assumption) (by first | omega | (simp; done) | (simp; omega) | (simp at *; omega))))))))) hS hE0 hp).mono ?_
  rintro e x2 ⟨rfl, hb2⟩
  have hc2 : Below x1.heap.size x1 x2 := hb2
  have hB2 : Below w.heap.size w x2 := hB1.trans (hc2.mono hB1.size)
  have zu2 := hB2.size
  replace PB := Lib.hid (PB.out.below hc2)
  clear PB_1_0 PB_1_1 PB_1_2 PB_1_3 lPB_1 nPB_1 mPB_1
  clear hb2 hB1 zu1 hc1
  obtain ⟨PB_2_0, PB_2_1, PB_2_2, PB_2_3⟩ := b4 PB.out
  have lPB_2 := PB.out.lt
  have nPB_2 : x2.heap.size ≠ w.heap.size := by omega
  have mPB_2 : w.heap.size ≠ x2.heap.size := by omega
  go_wp2
  go_ret
  exact ⟨rfl, hB2⟩
set_option maxRecDepth 100000 in
set_option maxHeartbeats 8000000 in
theorem trc_plan (nm : ByteArray) (s : Int) (G : List Ga) (D : List Le) (A B : Option Addr) (gn gc dn dc : Nat) (b t : Int) (N : Nat) (S E0 E1 F2 F3 : Int) (w : World) (hz : nm.size ≤ 9223372036854775807) (hgn : Hid (gn = G.length)) (hgl : gn ≤ 9223372036854775807) (hdn : Hid (dn = D.length)) (hdl : dn ≤ 9223372036854775807) (hG : Hid (SlRows gaV 2 w A G)) (hD : Hid (SlRows leV 3 w B D)) (CG : Hid (A = none → gn = 0 ∧ gc = 0)) (CD : Hid (B = none → dn = 0 ∧ dc = 0)) (hS : Hid (shortB nm.size dn gn = true)) (hE0 : Hid (plnP nm s G D = (N, E0))) (hSS : Hid (secT D dn = S)) (hp : Hid (briefV true E0 (secT D dn) = true)) (hE1 : Hid (rngE b 1 100000 = E1)) (hF2 : Hid ((if 20000 < secT D dn then (8 : Int) else 0) = F2)) (hF3 : Hid (rngE t 0 (secT D dn) = F3)) (hE : Hid (firE [E0, E1, F2, F3] = E0)) (hne : ¬ E0 = 0) (h1 : (E0 != 0) = true) (h2 : (E0 == 0) = false) :
    Calls Try.prog 12 #[.agg #[.string nm, .int .i64 s, .slice A gn gc, .slice B dn dc], .int .i64 b, .int .i64 t] w fun e w' => e = .returned (.bool true) ∧ Below w.heap.size w w' := by
  have hsb := shortB_le hS.out
  have hz6 : nm.size ≤ 1000000 := by omega
  have hg6 : gn ≤ 1000000 := by omega
  have hd6 : dn ≤ 1000000 := by omega
  go_enter Try.func12, Try.ntmps12
  go_wp2_with fail
  refine (awake_any _).mono ?_
  rintro e x1 ⟨rfl, hb1⟩
  have hc1 : Below w.heap.size w x1 := ((Below.refl _ _).alloc (by first | exact Nat.le_refl _ | (simp; done) | (simp; omega)) _).trans (hb1.mono (by first | exact Nat.le_refl _ | (simp; done) | (simp; omega)))
  have hB1 : Below w.heap.size w x1 := hc1
  have zu1 := hB1.size
  have PB : Hid (BlkF x1 w.heap.size (w.heap.size) [.string nm, .int .i64 s, .slice A gn gc, .slice B dn dc]) := Lib.hid ((BlkF.made (B := w.heap.size) w [.string nm, .int .i64 s, .slice A gn gc, .slice B dn dc] 40 (by first | exact Nat.le_refl _ | (simp; done) | (simp; omega))).below hb1)
  have zPB1 := PB.out.lt
  clear hb1
  obtain ⟨PB_1_0, PB_1_1, PB_1_2, PB_1_3⟩ := b4 PB.out
  have lPB_1 := PB.out.lt
  have nPB_1 : x1.heap.size ≠ w.heap.size := by omega
  have mPB_1 : w.heap.size ≠ x1.heap.size := by omega
  go_wp2_with fail
  refine (Brief_is nm s G D A B gn gc dn dc true true N E0 _ hz hgn hgl hdn hdl (Lib.hid (hG.out.below (by (repeat (first | (with_reducible refine Below.drew ?_) | (with_reducible refine below_drewN ?_ _) | (with_reducible refine Below.alloc ?_ (by first | omega | (simp; done) | (simp; omega) | (simp at *; omega)) _) | (with_reducible refine Below.setCell ?_ (by first | omega | (simp; done) | (simp; omega) | (simp at *; omega)) _) | (with_reducible exact Below.refl _ _) | (with_reducible assumption) | (with_reducible refine Below.trans ?_ (Below.mono (by assumption) (by first | omega | (simp; done) | (simp; omega) | (simp at *; omega))))))))) (Lib.hid (hD.out.below (by (repeat (first | (with_reducible refine Below.drew ?_) | (with_reducible refine below_drewN ?_ _) | (with_reducible refine Below.alloc ?_ (by first | omega | (simp; done) | (simp; omega) | (simp at *; omega)) _) | (with_reducible refine Below.setCell ?_ (by first | omega | (simp; done) | (simp; omega) | (simp at *; omega)) _) | (with_reducible exact Below.refl _ _) | (with_reducible assumption) | (with_reducible refine Below.trans ?_ (Below.mono (by assumption) (by first | omega | (simp; done) | (simp; omega) | (simp at *; omega))))))))) hS hE0 hp).mono ?_
  rintro e x2 ⟨rfl, hb2⟩
  have hc2 : Below x1.heap.size x1 x2 := hb2
  have hB2 : Below w.heap.size w x2 := hB1.trans (hc2.mono hB1.size)
  have zu2 := hB2.size
  replace PB := Lib.hid (PB.out.below hc2)
  clear PB_1_0 PB_1_1 PB_1_2 PB_1_3 lPB_1 nPB_1 mPB_1
  clear hb2 hB1 zu1 hc1
  obtain ⟨PB_2_0, PB_2_1, PB_2_2, PB_2_3⟩ := b4 PB.out
  have lPB_2 := PB.out.lt
  have nPB_2 : x2.heap.size ≠ w.heap.size := by omega
  have mPB_2 : w.heap.size ≠ x2.heap.size := by omega
  go_wp2_with fail
  refine (copyP_is nm s G D A B gn gc dn dc _ hgn hdn hg6 hd6 (Lib.hid (hG.out.below (by (repeat (first | (with_reducible refine Below.drew ?_) | (with_reducible refine below_drewN ?_ _) | (with_reducible refine Below.alloc ?_ (by first | omega | (simp; done) | (simp; omega) | (simp at *; omega)) _) | (with_reducible refine Below.setCell ?_ (by first | omega | (simp; done) | (simp; omega) | (simp at *; omega)) _) | (with_reducible exact Below.refl _ _) | (with_reducible assumption) | (with_reducible refine Below.trans ?_ (Below.mono (by assumption) (by first | omega | (simp; done) | (simp; omega) | (simp at *; omega))))))))) (Lib.hid (hD.out.below (by (repeat (first | (with_reducible refine Below.drew ?_) | (with_reducible refine below_drewN ?_ _) | (with_reducible refine Below.alloc ?_ (by first | omega | (simp; done) | (simp; omega) | (simp at *; omega)) _) | (with_reducible refine Below.setCell ?_ (by first | omega | (simp; done) | (simp; omega) | (simp at *; omega)) _) | (with_reducible exact Below.refl _ _) | (with_reducible assumption) | (with_reducible refine Below.trans ?_ (Below.mono (by assumption) (by first | omega | (simp; done) | (simp; omega) | (simp at *; omega))))))))) CG CD).mono ?_
  rintro e x3 ⟨A1, ca1, B1, cb1, rfl, hsg, hsd, hna, hnb, hb3⟩
  have hc3 : Below x2.heap.size x2 x3 := hb3
  have hB3 : Below w.heap.size w x3 := hB2.trans (hc3.mono hB2.size)
  have zu3 := hB3.size
  replace PB := Lib.hid (PB.out.below hc3)
  have HG1 := Lib.hid hsg
  have HD1 := Lib.hid hsd
  clear hsg hsd hna hnb
  clear PB_2_0 PB_2_1 PB_2_2 PB_2_3 lPB_2 nPB_2 mPB_2
  clear hb3 hB2 zu2 hc2
  obtain ⟨PB_3_0, PB_3_1, PB_3_2, PB_3_3⟩ := b4 PB.out
  have lPB_3 := PB.out.lt
  have nPB_3 : x3.heap.size ≠ w.heap.size := by omega
  have mPB_3 : w.heap.size ≠ x3.heap.size := by omega
  go_wp2_with fail
  refine (cl_bad (ConsumedAt_any nm s G D A1 B1 gn ca1 dn cb1 N b t E0 E1 F2 F3 E0 _ hz hgn hgl hdn hdl HG1 HD1 hE0 hE1 hF2 hF3 hE) hne).mono ?_
  rintro e x4 ⟨rfl, hb4⟩
  have hc4 : Below x3.heap.size x3 x4 := hb4
  have hB4 : Below w.heap.size w x4 := hB3.trans (hc4.mono hB3.size)
  have zu4 := hB4.size
  replace HG1 := Lib.hid (HG1.out.below hc4)
  replace HD1 := Lib.hid (HD1.out.below hc4)
  replace PB := Lib.hid (PB.out.below hc4)
  clear PB_3_0 PB_3_1 PB_3_2 PB_3_3 lPB_3 nPB_3 mPB_3
  clear hb4 hB3 zu3 hc3
  obtain ⟨PB_4_0, PB_4_1, PB_4_2, PB_4_3⟩ := b4 PB.out
  have lPB_4 := PB.out.lt
  have nPB_4 : x4.heap.size ≠ w.heap.size := by omega
  have mPB_4 : w.heap.size ≠ x4.heap.size := by omega
  clear HG1
  clear HD1
  go_wp2_with fail
  refine (refErr_any nm s G D A B gn gc dn dc N E0 _ hz6 hgn hgl hdn hdl (Lib.hid (hG.out.below (by (repeat (first | (with_reducible refine Below.drew ?_) | (with_reducible refine below_drewN ?_ _) | (with_reducible refine Below.alloc ?_ (by first | omega | (simp; done) | (simp; omega) | (simp at *; omega)) _) | (with_reducible refine Below.setCell ?_ (by first | omega | (simp; done) | (simp; omega) | (simp at *; omega)) _) | (with_reducible exact Below.refl _ _) | (with_reducible assumption) | (with_reducible refine Below.trans ?_ (Below.mono (by assumption) (by first | omega | (simp; done) | (simp; omega) | (simp at *; omega))))))))) (Lib.hid (hD.out.below (by (repeat (first | (with_reducible refine Below.drew ?_) | (with_reducible refine below_drewN ?_ _) | (with_reducible refine Below.alloc ?_ (by first | omega | (simp; done) | (simp; omega) | (simp at *; omega)) _) | (with_reducible refine Below.setCell ?_ (by first | omega | (simp; done) | (simp; omega) | (simp at *; omega)) _) | (with_reducible exact Below.refl _ _) | (with_reducible assumption) | (with_reducible refine Below.trans ?_ (Below.mono (by assumption) (by first | omega | (simp; done) | (simp; omega) | (simp at *; omega))))))))) hE0).mono ?_
  rintro e x5 ⟨rfl, hb5⟩
  have hc5 : Below x4.heap.size x4 x5 := hb5
  have hB5 : Below w.heap.size w x5 := hB4.trans (hc5.mono hB4.size)
  have zu5 := hB5.size
  replace PB := Lib.hid (PB.out.below hc5)
  clear PB_4_0 PB_4_1 PB_4_2 PB_4_3 lPB_4 nPB_4 mPB_4
  clear hb5 hB4 zu4 hc4
  obtain ⟨PB_5_0, PB_5_1, PB_5_2, PB_5_3⟩ := b4 PB.out
  have lPB_5 := PB.out.lt
  have nPB_5 : x5.heap.size ≠ w.heap.size := by omega
  have mPB_5 : w.heap.size ≠ x5.heap.size := by omega
  go_wp2
  go_ret
  exact ⟨rfl, hB5⟩
set_option maxRecDepth 100000 in
set_option maxHeartbeats 8000000 in
theorem trc_b (nm : ByteArray) (s : Int) (G : List Ga) (D : List Le) (A B : Option Addr) (gn gc dn dc : Nat) (b t : Int) (N : Nat) (S F2 F3 : Int) (w : World) (hz : nm.size ≤ 9223372036854775807) (hgn : Hid (gn = G.length)) (hgl : gn ≤ 9223372036854775807) (hdn : Hid (dn = D.length)) (hdl : dn ≤ 9223372036854775807) (hG : Hid (SlRows gaV 2 w A G)) (hD : Hid (SlRows leV 3 w B D)) (CG : Hid (A = none → gn = 0 ∧ gc = 0)) (CD : Hid (B = none → dn = 0 ∧ dc = 0)) (hS : Hid (shortB nm.size dn gn = true)) (hE0 : Hid (plnP nm s G D = (N, 0))) (hSS : Hid (secT D dn = S)) (hp : Hid (briefV true 0 (secT D dn) = true)) (hE1 : Hid (rngE b 1 100000 = 2)) (hF2 : Hid ((if 20000 < secT D dn then (8 : Int) else 0) = F2)) (hF3 : Hid (rngE t 0 (secT D dn) = F3)) (hE : Hid (firE [0, 2, F2, F3] = 2)) (hb : Hid (inB b 1 100000 = false)) (hne : ¬ (2 : Int) = 0) :
    Calls Try.prog 12 #[.agg #[.string nm, .int .i64 s, .slice A gn gc, .slice B dn dc], .int .i64 b, .int .i64 t] w fun e w' => e = .returned (.bool true) ∧ Below w.heap.size w w' := by
  have hsb := shortB_le hS.out
  have hz6 : nm.size ≤ 1000000 := by omega
  have hg6 : gn ≤ 1000000 := by omega
  have hd6 : dn ≤ 1000000 := by omega
  go_enter Try.func12, Try.ntmps12
  go_wp2_with fail
  refine (awake_any _).mono ?_
  rintro e x1 ⟨rfl, hb1⟩
  have hc1 : Below w.heap.size w x1 := ((Below.refl _ _).alloc (by first | exact Nat.le_refl _ | (simp; done) | (simp; omega)) _).trans (hb1.mono (by first | exact Nat.le_refl _ | (simp; done) | (simp; omega)))
  have hB1 : Below w.heap.size w x1 := hc1
  have zu1 := hB1.size
  have PB : Hid (BlkF x1 w.heap.size (w.heap.size) [.string nm, .int .i64 s, .slice A gn gc, .slice B dn dc]) := Lib.hid ((BlkF.made (B := w.heap.size) w [.string nm, .int .i64 s, .slice A gn gc, .slice B dn dc] 40 (by first | exact Nat.le_refl _ | (simp; done) | (simp; omega))).below hb1)
  have zPB1 := PB.out.lt
  clear hb1
  obtain ⟨PB_1_0, PB_1_1, PB_1_2, PB_1_3⟩ := b4 PB.out
  have lPB_1 := PB.out.lt
  have nPB_1 : x1.heap.size ≠ w.heap.size := by omega
  have mPB_1 : w.heap.size ≠ x1.heap.size := by omega
  go_wp2_with fail
  refine (Brief_is nm s G D A B gn gc dn dc true true N 0 _ hz hgn hgl hdn hdl (Lib.hid (hG.out.below (by (repeat (first | (with_reducible refine Below.drew ?_) | (with_reducible refine below_drewN ?_ _) | (with_reducible refine Below.alloc ?_ (by first | omega | (simp; done) | (simp; omega) | (simp at *; omega)) _) | (with_reducible refine Below.setCell ?_ (by first | omega | (simp; done) | (simp; omega) | (simp at *; omega)) _) | (with_reducible exact Below.refl _ _) | (with_reducible assumption) | (with_reducible refine Below.trans ?_ (Below.mono (by assumption) (by first | omega | (simp; done) | (simp; omega) | (simp at *; omega))))))))) (Lib.hid (hD.out.below (by (repeat (first | (with_reducible refine Below.drew ?_) | (with_reducible refine below_drewN ?_ _) | (with_reducible refine Below.alloc ?_ (by first | omega | (simp; done) | (simp; omega) | (simp at *; omega)) _) | (with_reducible refine Below.setCell ?_ (by first | omega | (simp; done) | (simp; omega) | (simp at *; omega)) _) | (with_reducible exact Below.refl _ _) | (with_reducible assumption) | (with_reducible refine Below.trans ?_ (Below.mono (by assumption) (by first | omega | (simp; done) | (simp; omega) | (simp at *; omega))))))))) hS hE0 hp).mono ?_
  rintro e x2 ⟨rfl, hb2⟩
  have hc2 : Below x1.heap.size x1 x2 := hb2
  have hB2 : Below w.heap.size w x2 := hB1.trans (hc2.mono hB1.size)
  have zu2 := hB2.size
  replace PB := Lib.hid (PB.out.below hc2)
  clear PB_1_0 PB_1_1 PB_1_2 PB_1_3 lPB_1 nPB_1 mPB_1
  clear hb2 hB1 zu1 hc1
  obtain ⟨PB_2_0, PB_2_1, PB_2_2, PB_2_3⟩ := b4 PB.out
  have lPB_2 := PB.out.lt
  have nPB_2 : x2.heap.size ≠ w.heap.size := by omega
  have mPB_2 : w.heap.size ≠ x2.heap.size := by omega
  go_wp2_with fail
  refine (copyP_is nm s G D A B gn gc dn dc _ hgn hdn hg6 hd6 (Lib.hid (hG.out.below (by (repeat (first | (with_reducible refine Below.drew ?_) | (with_reducible refine below_drewN ?_ _) | (with_reducible refine Below.alloc ?_ (by first | omega | (simp; done) | (simp; omega) | (simp at *; omega)) _) | (with_reducible refine Below.setCell ?_ (by first | omega | (simp; done) | (simp; omega) | (simp at *; omega)) _) | (with_reducible exact Below.refl _ _) | (with_reducible assumption) | (with_reducible refine Below.trans ?_ (Below.mono (by assumption) (by first | omega | (simp; done) | (simp; omega) | (simp at *; omega))))))))) (Lib.hid (hD.out.below (by (repeat (first | (with_reducible refine Below.drew ?_) | (with_reducible refine below_drewN ?_ _) | (with_reducible refine Below.alloc ?_ (by first | omega | (simp; done) | (simp; omega) | (simp at *; omega)) _) | (with_reducible refine Below.setCell ?_ (by first | omega | (simp; done) | (simp; omega) | (simp at *; omega)) _) | (with_reducible exact Below.refl _ _) | (with_reducible assumption) | (with_reducible refine Below.trans ?_ (Below.mono (by assumption) (by first | omega | (simp; done) | (simp; omega) | (simp at *; omega))))))))) CG CD).mono ?_
  rintro e x3 ⟨A1, ca1, B1, cb1, rfl, hsg, hsd, hna, hnb, hb3⟩
  have hc3 : Below x2.heap.size x2 x3 := hb3
  have hB3 : Below w.heap.size w x3 := hB2.trans (hc3.mono hB2.size)
  have zu3 := hB3.size
  replace PB := Lib.hid (PB.out.below hc3)
  have HG1 := Lib.hid hsg
  have HD1 := Lib.hid hsd
  clear hsg hsd hna hnb
  clear PB_2_0 PB_2_1 PB_2_2 PB_2_3 lPB_2 nPB_2 mPB_2
  clear hb3 hB2 zu2 hc2
  obtain ⟨PB_3_0, PB_3_1, PB_3_2, PB_3_3⟩ := b4 PB.out
  have lPB_3 := PB.out.lt
  have nPB_3 : x3.heap.size ≠ w.heap.size := by omega
  have mPB_3 : w.heap.size ≠ x3.heap.size := by omega
  go_wp2_with fail
  refine (cl_bad (ConsumedAt_any nm s G D A1 B1 gn ca1 dn cb1 N b t 0 2 F2 F3 2 _ hz hgn hgl hdn hdl HG1 HD1 hE0 hE1 hF2 hF3 hE) hne).mono ?_
  rintro e x4 ⟨rfl, hb4⟩
  have hc4 : Below x3.heap.size x3 x4 := hb4
  have hB4 : Below w.heap.size w x4 := hB3.trans (hc4.mono hB3.size)
  have zu4 := hB4.size
  replace HG1 := Lib.hid (HG1.out.below hc4)
  replace HD1 := Lib.hid (HD1.out.below hc4)
  replace PB := Lib.hid (PB.out.below hc4)
  clear PB_3_0 PB_3_1 PB_3_2 PB_3_3 lPB_3 nPB_3 mPB_3
  clear hb4 hB3 zu3 hc3
  obtain ⟨PB_4_0, PB_4_1, PB_4_2, PB_4_3⟩ := b4 PB.out
  have lPB_4 := PB.out.lt
  have nPB_4 : x4.heap.size ≠ w.heap.size := by omega
  have mPB_4 : w.heap.size ≠ x4.heap.size := by omega
  clear HG1
  clear HD1
  go_wp2_with fail
  refine (refErr_any nm s G D A B gn gc dn dc N 0 _ hz6 hgn hgl hdn hdl (Lib.hid (hG.out.below (by (repeat (first | (with_reducible refine Below.drew ?_) | (with_reducible refine below_drewN ?_ _) | (with_reducible refine Below.alloc ?_ (by first | omega | (simp; done) | (simp; omega) | (simp at *; omega)) _) | (with_reducible refine Below.setCell ?_ (by first | omega | (simp; done) | (simp; omega) | (simp at *; omega)) _) | (with_reducible exact Below.refl _ _) | (with_reducible assumption) | (with_reducible refine Below.trans ?_ (Below.mono (by assumption) (by first | omega | (simp; done) | (simp; omega) | (simp at *; omega))))))))) (Lib.hid (hD.out.below (by (repeat (first | (with_reducible refine Below.drew ?_) | (with_reducible refine below_drewN ?_ _) | (with_reducible refine Below.alloc ?_ (by first | omega | (simp; done) | (simp; omega) | (simp at *; omega)) _) | (with_reducible refine Below.setCell ?_ (by first | omega | (simp; done) | (simp; omega) | (simp at *; omega)) _) | (with_reducible exact Below.refl _ _) | (with_reducible assumption) | (with_reducible refine Below.trans ?_ (Below.mono (by assumption) (by first | omega | (simp; done) | (simp; omega) | (simp at *; omega))))))))) hE0).mono ?_
  rintro e x5 ⟨rfl, hb5⟩
  have hc5 : Below x4.heap.size x4 x5 := hb5
  have hB5 : Below w.heap.size w x5 := hB4.trans (hc5.mono hB4.size)
  have zu5 := hB5.size
  replace PB := Lib.hid (PB.out.below hc5)
  clear PB_4_0 PB_4_1 PB_4_2 PB_4_3 lPB_4 nPB_4 mPB_4
  clear hb5 hB4 zu4 hc4
  obtain ⟨PB_5_0, PB_5_1, PB_5_2, PB_5_3⟩ := b4 PB.out
  have lPB_5 := PB.out.lt
  have nPB_5 : x5.heap.size ≠ w.heap.size := by omega
  have mPB_5 : w.heap.size ≠ x5.heap.size := by omega
  go_wp2_with (first | (go_at_call 43; ((with_reducible refine (isBreath_r _ _ _ hb).mono ?_)); rintro e w' ⟨rfl, rfl⟩) | (go_at_call 20; ((with_reducible refine (bW_r _ _ _ _ _ hl).mono ?_)); rintro e w' ⟨rfl, rfl⟩))
  go_ret
  exact ⟨rfl, hB5⟩
set_option maxRecDepth 100000 in
set_option maxHeartbeats 8000000 in
theorem trc_long (nm : ByteArray) (s : Int) (G : List Ga) (D : List Le) (A B : Option Addr) (gn gc dn dc : Nat) (b t : Int) (N : Nat) (S F3 : Int) (w : World) (hz : nm.size ≤ 9223372036854775807) (hgn : Hid (gn = G.length)) (hgl : gn ≤ 9223372036854775807) (hdn : Hid (dn = D.length)) (hdl : dn ≤ 9223372036854775807) (hG : Hid (SlRows gaV 2 w A G)) (hD : Hid (SlRows leV 3 w B D)) (CG : Hid (A = none → gn = 0 ∧ gc = 0)) (CD : Hid (B = none → dn = 0 ∧ dc = 0)) (hS : Hid (shortB nm.size dn gn = true)) (hE0 : Hid (plnP nm s G D = (N, 0))) (hSS : Hid (secT D dn = S)) (hp : Hid (briefV true 0 (secT D dn) = true)) (hE1 : Hid (rngE b 1 100000 = 0)) (hF2 : Hid ((if 20000 < secT D dn then (8 : Int) else 0) = 8)) (hF3 : Hid (rngE t 0 (secT D dn) = F3)) (hE : Hid (firE [0, 0, 8, F3] = 8)) (hb : Hid (inB b 1 100000 = true)) (h20 : 20000 < S) (hne : ¬ (8 : Int) = 0) :
    Calls Try.prog 12 #[.agg #[.string nm, .int .i64 s, .slice A gn gc, .slice B dn dc], .int .i64 b, .int .i64 t] w fun e w' => e = .returned (.bool true) ∧ Below w.heap.size w w' := by
  have hok := Lib.hid (pln_ok hE0.out)
  have hsb := shortB_le hS.out
  have hz6 : nm.size ≤ 1000000 := by omega
  have hg6 : gn ≤ 1000000 := by omega
  have hd6 : dn ≤ 1000000 := by omega
  go_enter Try.func12, Try.ntmps12
  go_wp2_with fail
  refine (awake_any _).mono ?_
  rintro e x1 ⟨rfl, hb1⟩
  have hc1 : Below w.heap.size w x1 := ((Below.refl _ _).alloc (by first | exact Nat.le_refl _ | (simp; done) | (simp; omega)) _).trans (hb1.mono (by first | exact Nat.le_refl _ | (simp; done) | (simp; omega)))
  have hB1 : Below w.heap.size w x1 := hc1
  have zu1 := hB1.size
  have PB : Hid (BlkF x1 w.heap.size (w.heap.size) [.string nm, .int .i64 s, .slice A gn gc, .slice B dn dc]) := Lib.hid ((BlkF.made (B := w.heap.size) w [.string nm, .int .i64 s, .slice A gn gc, .slice B dn dc] 40 (by first | exact Nat.le_refl _ | (simp; done) | (simp; omega))).below hb1)
  have zPB1 := PB.out.lt
  clear hb1
  obtain ⟨PB_1_0, PB_1_1, PB_1_2, PB_1_3⟩ := b4 PB.out
  have lPB_1 := PB.out.lt
  have nPB_1 : x1.heap.size ≠ w.heap.size := by omega
  have mPB_1 : w.heap.size ≠ x1.heap.size := by omega
  go_wp2_with fail
  refine (Brief_is nm s G D A B gn gc dn dc true true N 0 _ hz hgn hgl hdn hdl (Lib.hid (hG.out.below (by (repeat (first | (with_reducible refine Below.drew ?_) | (with_reducible refine below_drewN ?_ _) | (with_reducible refine Below.alloc ?_ (by first | omega | (simp; done) | (simp; omega) | (simp at *; omega)) _) | (with_reducible refine Below.setCell ?_ (by first | omega | (simp; done) | (simp; omega) | (simp at *; omega)) _) | (with_reducible exact Below.refl _ _) | (with_reducible assumption) | (with_reducible refine Below.trans ?_ (Below.mono (by assumption) (by first | omega | (simp; done) | (simp; omega) | (simp at *; omega))))))))) (Lib.hid (hD.out.below (by (repeat (first | (with_reducible refine Below.drew ?_) | (with_reducible refine below_drewN ?_ _) | (with_reducible refine Below.alloc ?_ (by first | omega | (simp; done) | (simp; omega) | (simp at *; omega)) _) | (with_reducible refine Below.setCell ?_ (by first | omega | (simp; done) | (simp; omega) | (simp at *; omega)) _) | (with_reducible exact Below.refl _ _) | (with_reducible assumption) | (with_reducible refine Below.trans ?_ (Below.mono (by assumption) (by first | omega | (simp; done) | (simp; omega) | (simp at *; omega))))))))) hS hE0 hp).mono ?_
  rintro e x2 ⟨rfl, hb2⟩
  have hc2 : Below x1.heap.size x1 x2 := hb2
  have hB2 : Below w.heap.size w x2 := hB1.trans (hc2.mono hB1.size)
  have zu2 := hB2.size
  replace PB := Lib.hid (PB.out.below hc2)
  clear PB_1_0 PB_1_1 PB_1_2 PB_1_3 lPB_1 nPB_1 mPB_1
  clear hb2 hB1 zu1 hc1
  obtain ⟨PB_2_0, PB_2_1, PB_2_2, PB_2_3⟩ := b4 PB.out
  have lPB_2 := PB.out.lt
  have nPB_2 : x2.heap.size ≠ w.heap.size := by omega
  have mPB_2 : w.heap.size ≠ x2.heap.size := by omega
  go_wp2_with fail
  refine (copyP_is nm s G D A B gn gc dn dc _ hgn hdn hg6 hd6 (Lib.hid (hG.out.below (by (repeat (first | (with_reducible refine Below.drew ?_) | (with_reducible refine below_drewN ?_ _) | (with_reducible refine Below.alloc ?_ (by first | omega | (simp; done) | (simp; omega) | (simp at *; omega)) _) | (with_reducible refine Below.setCell ?_ (by first | omega | (simp; done) | (simp; omega) | (simp at *; omega)) _) | (with_reducible exact Below.refl _ _) | (with_reducible assumption) | (with_reducible refine Below.trans ?_ (Below.mono (by assumption) (by first | omega | (simp; done) | (simp; omega) | (simp at *; omega))))))))) (Lib.hid (hD.out.below (by (repeat (first | (with_reducible refine Below.drew ?_) | (with_reducible refine below_drewN ?_ _) | (with_reducible refine Below.alloc ?_ (by first | omega | (simp; done) | (simp; omega) | (simp at *; omega)) _) | (with_reducible refine Below.setCell ?_ (by first | omega | (simp; done) | (simp; omega) | (simp at *; omega)) _) | (with_reducible exact Below.refl _ _) | (with_reducible assumption) | (with_reducible refine Below.trans ?_ (Below.mono (by assumption) (by first | omega | (simp; done) | (simp; omega) | (simp at *; omega))))))))) CG CD).mono ?_
  rintro e x3 ⟨A1, ca1, B1, cb1, rfl, hsg, hsd, hna, hnb, hb3⟩
  have hc3 : Below x2.heap.size x2 x3 := hb3
  have hB3 : Below w.heap.size w x3 := hB2.trans (hc3.mono hB2.size)
  have zu3 := hB3.size
  replace PB := Lib.hid (PB.out.below hc3)
  have HG1 := Lib.hid hsg
  have HD1 := Lib.hid hsd
  clear hsg hsd hna hnb
  clear PB_2_0 PB_2_1 PB_2_2 PB_2_3 lPB_2 nPB_2 mPB_2
  clear hb3 hB2 zu2 hc2
  obtain ⟨PB_3_0, PB_3_1, PB_3_2, PB_3_3⟩ := b4 PB.out
  have lPB_3 := PB.out.lt
  have nPB_3 : x3.heap.size ≠ w.heap.size := by omega
  have mPB_3 : w.heap.size ≠ x3.heap.size := by omega
  go_wp2_with fail
  refine (cl_bad (ConsumedAt_any nm s G D A1 B1 gn ca1 dn cb1 N b t 0 0 8 F3 8 _ hz hgn hgl hdn hdl HG1 HD1 hE0 hE1 hF2 hF3 hE) hne).mono ?_
  rintro e x4 ⟨rfl, hb4⟩
  have hc4 : Below x3.heap.size x3 x4 := hb4
  have hB4 : Below w.heap.size w x4 := hB3.trans (hc4.mono hB3.size)
  have zu4 := hB4.size
  replace HG1 := Lib.hid (HG1.out.below hc4)
  replace HD1 := Lib.hid (HD1.out.below hc4)
  replace PB := Lib.hid (PB.out.below hc4)
  clear PB_3_0 PB_3_1 PB_3_2 PB_3_3 lPB_3 nPB_3 mPB_3
  clear hb4 hB3 zu3 hc3
  obtain ⟨PB_4_0, PB_4_1, PB_4_2, PB_4_3⟩ := b4 PB.out
  have lPB_4 := PB.out.lt
  have nPB_4 : x4.heap.size ≠ w.heap.size := by omega
  have mPB_4 : w.heap.size ≠ x4.heap.size := by omega
  clear HG1
  clear HD1
  go_wp2_with fail
  refine (refErr_any nm s G D A B gn gc dn dc N 0 _ hz6 hgn hgl hdn hdl (Lib.hid (hG.out.below (by (repeat (first | (with_reducible refine Below.drew ?_) | (with_reducible refine below_drewN ?_ _) | (with_reducible refine Below.alloc ?_ (by first | omega | (simp; done) | (simp; omega) | (simp at *; omega)) _) | (with_reducible refine Below.setCell ?_ (by first | omega | (simp; done) | (simp; omega) | (simp at *; omega)) _) | (with_reducible exact Below.refl _ _) | (with_reducible assumption) | (with_reducible refine Below.trans ?_ (Below.mono (by assumption) (by first | omega | (simp; done) | (simp; omega) | (simp at *; omega))))))))) (Lib.hid (hD.out.below (by (repeat (first | (with_reducible refine Below.drew ?_) | (with_reducible refine below_drewN ?_ _) | (with_reducible refine Below.alloc ?_ (by first | omega | (simp; done) | (simp; omega) | (simp at *; omega)) _) | (with_reducible refine Below.setCell ?_ (by first | omega | (simp; done) | (simp; omega) | (simp at *; omega)) _) | (with_reducible exact Below.refl _ _) | (with_reducible assumption) | (with_reducible refine Below.trans ?_ (Below.mono (by assumption) (by first | omega | (simp; done) | (simp; omega) | (simp at *; omega))))))))) hE0).mono ?_
  rintro e x5 ⟨rfl, hb5⟩
  have hc5 : Below x4.heap.size x4 x5 := hb5
  have hB5 : Below w.heap.size w x5 := hB4.trans (hc5.mono hB4.size)
  have zu5 := hB5.size
  replace PB := Lib.hid (PB.out.below hc5)
  clear PB_4_0 PB_4_1 PB_4_2 PB_4_3 lPB_4 nPB_4 mPB_4
  clear hb5 hB4 zu4 hc4
  obtain ⟨PB_5_0, PB_5_1, PB_5_2, PB_5_3⟩ := b4 PB.out
  have lPB_5 := PB.out.lt
  have nPB_5 : x5.heap.size ≠ w.heap.size := by omega
  have mPB_5 : w.heap.size ≠ x5.heap.size := by omega
  go_wp2_with (first | (go_at_call 43; ((with_reducible refine (isBreath_r _ _ _ hb).mono ?_)); rintro e w' ⟨rfl, rfl⟩) | (go_at_call 20; ((with_reducible refine (bW_r _ _ _ _ _ hl).mono ?_)); rintro e w' ⟨rfl, rfl⟩))
  refine (refSeconds_is nm s G D A B gn gc dn dc S _ hgn hdn hok (Lib.hid (hG.out.below (by (repeat (first | (with_reducible refine Below.drew ?_) | (with_reducible refine below_drewN ?_ _) | (with_reducible refine Below.alloc ?_ (by first | omega | (simp; done) | (simp; omega) | (simp at *; omega)) _) | (with_reducible refine Below.setCell ?_ (by first | omega | (simp; done) | (simp; omega) | (simp at *; omega)) _) | (with_reducible exact Below.refl _ _) | (with_reducible assumption) | (with_reducible refine Below.trans ?_ (Below.mono (by assumption) (by first | omega | (simp; done) | (simp; omega) | (simp at *; omega))))))))) (Lib.hid (hD.out.below (by (repeat (first | (with_reducible refine Below.drew ?_) | (with_reducible refine below_drewN ?_ _) | (with_reducible refine Below.alloc ?_ (by first | omega | (simp; done) | (simp; omega) | (simp at *; omega)) _) | (with_reducible refine Below.setCell ?_ (by first | omega | (simp; done) | (simp; omega) | (simp at *; omega)) _) | (with_reducible exact Below.refl _ _) | (with_reducible assumption) | (with_reducible refine Below.trans ?_ (Below.mono (by assumption) (by first | omega | (simp; done) | (simp; omega) | (simp at *; omega))))))))) hSS).mono ?_
  rintro e x6 ⟨rfl, hb6⟩
  have hc6 : Below x5.heap.size x5 x6 := hb6
  have hB6 : Below w.heap.size w x6 := hB5.trans (hc6.mono hB5.size)
  have zu6 := hB6.size
  replace PB := Lib.hid (PB.out.below hc6)
  clear PB_5_0 PB_5_1 PB_5_2 PB_5_3 lPB_5 nPB_5 mPB_5
  clear hb6 hB5 zu5 hc5
  obtain ⟨PB_6_0, PB_6_1, PB_6_2, PB_6_3⟩ := b4 PB.out
  have lPB_6 := PB.out.lt
  have nPB_6 : x6.heap.size ≠ w.heap.size := by omega
  have mPB_6 : w.heap.size ≠ x6.heap.size := by omega
  go_wp2_with (first | (go_at_call 43; ((with_reducible refine (isBreath_r _ _ _ hb).mono ?_)); rintro e w' ⟨rfl, rfl⟩) | (go_at_call 20; ((with_reducible refine (bW_r _ _ _ _ _ hl).mono ?_)); rintro e w' ⟨rfl, rfl⟩))
  go_ret
  exact ⟨rfl, hB6⟩
set_option maxRecDepth 100000 in
set_option maxHeartbeats 8000000 in
theorem trc_sec (nm : ByteArray) (s : Int) (G : List Ga) (D : List Le) (A B : Option Addr) (gn gc dn dc : Nat) (b t : Int) (N : Nat) (S : Int) (w : World) (hz : nm.size ≤ 9223372036854775807) (hgn : Hid (gn = G.length)) (hgl : gn ≤ 9223372036854775807) (hdn : Hid (dn = D.length)) (hdl : dn ≤ 9223372036854775807) (hG : Hid (SlRows gaV 2 w A G)) (hD : Hid (SlRows leV 3 w B D)) (CG : Hid (A = none → gn = 0 ∧ gc = 0)) (CD : Hid (B = none → dn = 0 ∧ dc = 0)) (hS : Hid (shortB nm.size dn gn = true)) (hE0 : Hid (plnP nm s G D = (N, 0))) (hSS : Hid (secT D dn = S)) (hp : Hid (briefV true 0 (secT D dn) = true)) (hE1 : Hid (rngE b 1 100000 = 0)) (hF2 : Hid ((if 20000 < secT D dn then (8 : Int) else 0) = 0)) (hF3 : Hid (rngE t 0 (secT D dn) = 2)) (hE : Hid (firE [0, 0, 0, 2] = 2)) (hb : Hid (inB b 1 100000 = true)) (h20 : ¬ 20000 < S) (hl : Hid (inB t 0 S = false)) (hne : ¬ (2 : Int) = 0) :
    Calls Try.prog 12 #[.agg #[.string nm, .int .i64 s, .slice A gn gc, .slice B dn dc], .int .i64 b, .int .i64 t] w fun e w' => e = .returned (.bool true) ∧ Below w.heap.size w w' := by
  have hok := Lib.hid (pln_ok hE0.out)
  have hsb := shortB_le hS.out
  have hz6 : nm.size ≤ 1000000 := by omega
  have hg6 : gn ≤ 1000000 := by omega
  have hd6 : dn ≤ 1000000 := by omega
  go_enter Try.func12, Try.ntmps12
  go_wp2_with fail
  refine (awake_any _).mono ?_
  rintro e x1 ⟨rfl, hb1⟩
  have hc1 : Below w.heap.size w x1 := ((Below.refl _ _).alloc (by first | exact Nat.le_refl _ | (simp; done) | (simp; omega)) _).trans (hb1.mono (by first | exact Nat.le_refl _ | (simp; done) | (simp; omega)))
  have hB1 : Below w.heap.size w x1 := hc1
  have zu1 := hB1.size
  have PB : Hid (BlkF x1 w.heap.size (w.heap.size) [.string nm, .int .i64 s, .slice A gn gc, .slice B dn dc]) := Lib.hid ((BlkF.made (B := w.heap.size) w [.string nm, .int .i64 s, .slice A gn gc, .slice B dn dc] 40 (by first | exact Nat.le_refl _ | (simp; done) | (simp; omega))).below hb1)
  have zPB1 := PB.out.lt
  clear hb1
  obtain ⟨PB_1_0, PB_1_1, PB_1_2, PB_1_3⟩ := b4 PB.out
  have lPB_1 := PB.out.lt
  have nPB_1 : x1.heap.size ≠ w.heap.size := by omega
  have mPB_1 : w.heap.size ≠ x1.heap.size := by omega
  go_wp2_with fail
  refine (Brief_is nm s G D A B gn gc dn dc true true N 0 _ hz hgn hgl hdn hdl (Lib.hid (hG.out.below (by (repeat (first | (with_reducible refine Below.drew ?_) | (with_reducible refine below_drewN ?_ _) | (with_reducible refine Below.alloc ?_ (by first | omega | (simp; done) | (simp; omega) | (simp at *; omega)) _) | (with_reducible refine Below.setCell ?_ (by first | omega | (simp; done) | (simp; omega) | (simp at *; omega)) _) | (with_reducible exact Below.refl _ _) | (with_reducible assumption) | (with_reducible refine Below.trans ?_ (Below.mono (by assumption) (by first | omega | (simp; done) | (simp; omega) | (simp at *; omega))))))))) (Lib.hid (hD.out.below (by (repeat (first | (with_reducible refine Below.drew ?_) | (with_reducible refine below_drewN ?_ _) | (with_reducible refine Below.alloc ?_ (by first | omega | (simp; done) | (simp; omega) | (simp at *; omega)) _) | (with_reducible refine Below.setCell ?_ (by first | omega | (simp; done) | (simp; omega) | (simp at *; omega)) _) | (with_reducible exact Below.refl _ _) | (with_reducible assumption) | (with_reducible refine Below.trans ?_ (Below.mono (by assumption) (by first | omega | (simp; done) | (simp; omega) | (simp at *; omega))))))))) hS hE0 hp).mono ?_
  rintro e x2 ⟨rfl, hb2⟩
  have hc2 : Below x1.heap.size x1 x2 := hb2
  have hB2 : Below w.heap.size w x2 := hB1.trans (hc2.mono hB1.size)
  have zu2 := hB2.size
  replace PB := Lib.hid (PB.out.below hc2)
  clear PB_1_0 PB_1_1 PB_1_2 PB_1_3 lPB_1 nPB_1 mPB_1
  clear hb2 hB1 zu1 hc1
  obtain ⟨PB_2_0, PB_2_1, PB_2_2, PB_2_3⟩ := b4 PB.out
  have lPB_2 := PB.out.lt
  have nPB_2 : x2.heap.size ≠ w.heap.size := by omega
  have mPB_2 : w.heap.size ≠ x2.heap.size := by omega
  go_wp2_with fail
  refine (copyP_is nm s G D A B gn gc dn dc _ hgn hdn hg6 hd6 (Lib.hid (hG.out.below (by (repeat (first | (with_reducible refine Below.drew ?_) | (with_reducible refine below_drewN ?_ _) | (with_reducible refine Below.alloc ?_ (by first | omega | (simp; done) | (simp; omega) | (simp at *; omega)) _) | (with_reducible refine Below.setCell ?_ (by first | omega | (simp; done) | (simp; omega) | (simp at *; omega)) _) | (with_reducible exact Below.refl _ _) | (with_reducible assumption) | (with_reducible refine Below.trans ?_ (Below.mono (by assumption) (by first | omega | (simp; done) | (simp; omega) | (simp at *; omega))))))))) (Lib.hid (hD.out.below (by (repeat (first | (with_reducible refine Below.drew ?_) | (with_reducible refine below_drewN ?_ _) | (with_reducible refine Below.alloc ?_ (by first | omega | (simp; done) | (simp; omega) | (simp at *; omega)) _) | (with_reducible refine Below.setCell ?_ (by first | omega | (simp; done) | (simp; omega) | (simp at *; omega)) _) | (with_reducible exact Below.refl _ _) | (with_reducible assumption) | (with_reducible refine Below.trans ?_ (Below.mono (by assumption) (by first | omega | (simp; done) | (simp; omega) | (simp at *; omega))))))))) CG CD).mono ?_
  rintro e x3 ⟨A1, ca1, B1, cb1, rfl, hsg, hsd, hna, hnb, hb3⟩
  have hc3 : Below x2.heap.size x2 x3 := hb3
  have hB3 : Below w.heap.size w x3 := hB2.trans (hc3.mono hB2.size)
  have zu3 := hB3.size
  replace PB := Lib.hid (PB.out.below hc3)
  have HG1 := Lib.hid hsg
  have HD1 := Lib.hid hsd
  clear hsg hsd hna hnb
  clear PB_2_0 PB_2_1 PB_2_2 PB_2_3 lPB_2 nPB_2 mPB_2
  clear hb3 hB2 zu2 hc2
  obtain ⟨PB_3_0, PB_3_1, PB_3_2, PB_3_3⟩ := b4 PB.out
  have lPB_3 := PB.out.lt
  have nPB_3 : x3.heap.size ≠ w.heap.size := by omega
  have mPB_3 : w.heap.size ≠ x3.heap.size := by omega
  go_wp2_with fail
  refine (cl_bad (ConsumedAt_any nm s G D A1 B1 gn ca1 dn cb1 N b t 0 0 0 2 2 _ hz hgn hgl hdn hdl HG1 HD1 hE0 hE1 hF2 hF3 hE) hne).mono ?_
  rintro e x4 ⟨rfl, hb4⟩
  have hc4 : Below x3.heap.size x3 x4 := hb4
  have hB4 : Below w.heap.size w x4 := hB3.trans (hc4.mono hB3.size)
  have zu4 := hB4.size
  replace HG1 := Lib.hid (HG1.out.below hc4)
  replace HD1 := Lib.hid (HD1.out.below hc4)
  replace PB := Lib.hid (PB.out.below hc4)
  clear PB_3_0 PB_3_1 PB_3_2 PB_3_3 lPB_3 nPB_3 mPB_3
  clear hb4 hB3 zu3 hc3
  obtain ⟨PB_4_0, PB_4_1, PB_4_2, PB_4_3⟩ := b4 PB.out
  have lPB_4 := PB.out.lt
  have nPB_4 : x4.heap.size ≠ w.heap.size := by omega
  have mPB_4 : w.heap.size ≠ x4.heap.size := by omega
  clear HG1
  clear HD1
  go_wp2_with fail
  refine (refErr_any nm s G D A B gn gc dn dc N 0 _ hz6 hgn hgl hdn hdl (Lib.hid (hG.out.below (by (repeat (first | (with_reducible refine Below.drew ?_) | (with_reducible refine below_drewN ?_ _) | (with_reducible refine Below.alloc ?_ (by first | omega | (simp; done) | (simp; omega) | (simp at *; omega)) _) | (with_reducible refine Below.setCell ?_ (by first | omega | (simp; done) | (simp; omega) | (simp at *; omega)) _) | (with_reducible exact Below.refl _ _) | (with_reducible assumption) | (with_reducible refine Below.trans ?_ (Below.mono (by assumption) (by first | omega | (simp; done) | (simp; omega) | (simp at *; omega))))))))) (Lib.hid (hD.out.below (by (repeat (first | (with_reducible refine Below.drew ?_) | (with_reducible refine below_drewN ?_ _) | (with_reducible refine Below.alloc ?_ (by first | omega | (simp; done) | (simp; omega) | (simp at *; omega)) _) | (with_reducible refine Below.setCell ?_ (by first | omega | (simp; done) | (simp; omega) | (simp at *; omega)) _) | (with_reducible exact Below.refl _ _) | (with_reducible assumption) | (with_reducible refine Below.trans ?_ (Below.mono (by assumption) (by first | omega | (simp; done) | (simp; omega) | (simp at *; omega))))))))) hE0).mono ?_
  rintro e x5 ⟨rfl, hb5⟩
  have hc5 : Below x4.heap.size x4 x5 := hb5
  have hB5 : Below w.heap.size w x5 := hB4.trans (hc5.mono hB4.size)
  have zu5 := hB5.size
  replace PB := Lib.hid (PB.out.below hc5)
  clear PB_4_0 PB_4_1 PB_4_2 PB_4_3 lPB_4 nPB_4 mPB_4
  clear hb5 hB4 zu4 hc4
  obtain ⟨PB_5_0, PB_5_1, PB_5_2, PB_5_3⟩ := b4 PB.out
  have lPB_5 := PB.out.lt
  have nPB_5 : x5.heap.size ≠ w.heap.size := by omega
  have mPB_5 : w.heap.size ≠ x5.heap.size := by omega
  go_wp2_with (first | (go_at_call 43; ((with_reducible refine (isBreath_r _ _ _ hb).mono ?_)); rintro e w' ⟨rfl, rfl⟩) | (go_at_call 20; ((with_reducible refine (bW_r _ _ _ _ _ hl).mono ?_)); rintro e w' ⟨rfl, rfl⟩))
  refine (refSeconds_is nm s G D A B gn gc dn dc S _ hgn hdn hok (Lib.hid (hG.out.below (by (repeat (first | (with_reducible refine Below.drew ?_) | (with_reducible refine below_drewN ?_ _) | (with_reducible refine Below.alloc ?_ (by first | omega | (simp; done) | (simp; omega) | (simp at *; omega)) _) | (with_reducible refine Below.setCell ?_ (by first | omega | (simp; done) | (simp; omega) | (simp at *; omega)) _) | (with_reducible exact Below.refl _ _) | (with_reducible assumption) | (with_reducible refine Below.trans ?_ (Below.mono (by assumption) (by first | omega | (simp; done) | (simp; omega) | (simp at *; omega))))))))) (Lib.hid (hD.out.below (by (repeat (first | (with_reducible refine Below.drew ?_) | (with_reducible refine below_drewN ?_ _) | (with_reducible refine Below.alloc ?_ (by first | omega | (simp; done) | (simp; omega) | (simp at *; omega)) _) | (with_reducible refine Below.setCell ?_ (by first | omega | (simp; done) | (simp; omega) | (simp at *; omega)) _) | (with_reducible exact Below.refl _ _) | (with_reducible assumption) | (with_reducible refine Below.trans ?_ (Below.mono (by assumption) (by first | omega | (simp; done) | (simp; omega) | (simp at *; omega))))))))) hSS).mono ?_
  rintro e x6 ⟨rfl, hb6⟩
  have hc6 : Below x5.heap.size x5 x6 := hb6
  have hB6 : Below w.heap.size w x6 := hB5.trans (hc6.mono hB5.size)
  have zu6 := hB6.size
  replace PB := Lib.hid (PB.out.below hc6)
  clear PB_5_0 PB_5_1 PB_5_2 PB_5_3 lPB_5 nPB_5 mPB_5
  clear hb6 hB5 zu5 hc5
  obtain ⟨PB_6_0, PB_6_1, PB_6_2, PB_6_3⟩ := b4 PB.out
  have lPB_6 := PB.out.lt
  have nPB_6 : x6.heap.size ≠ w.heap.size := by omega
  have mPB_6 : w.heap.size ≠ x6.heap.size := by omega
  go_wp2_with (first | (go_at_call 43; ((with_reducible refine (isBreath_r _ _ _ hb).mono ?_)); rintro e w' ⟨rfl, rfl⟩) | (go_at_call 20; ((with_reducible refine (bW_r _ _ _ _ _ hl).mono ?_)); rintro e w' ⟨rfl, rfl⟩))
  refine (refSeconds_is nm s G D A B gn gc dn dc S _ hgn hdn hok (Lib.hid (hG.out.below (by (repeat (first | (with_reducible refine Below.drew ?_) | (with_reducible refine below_drewN ?_ _) | (with_reducible refine Below.alloc ?_ (by first | omega | (simp; done) | (simp; omega) | (simp at *; omega)) _) | (with_reducible refine Below.setCell ?_ (by first | omega | (simp; done) | (simp; omega) | (simp at *; omega)) _) | (with_reducible exact Below.refl _ _) | (with_reducible assumption) | (with_reducible refine Below.trans ?_ (Below.mono (by assumption) (by first | omega | (simp; done) | (simp; omega) | (simp at *; omega))))))))) (Lib.hid (hD.out.below (by (repeat (first | (with_reducible refine Below.drew ?_) | (with_reducible refine below_drewN ?_ _) | (with_reducible refine Below.alloc ?_ (by first | omega | (simp; done) | (simp; omega) | (simp at *; omega)) _) | (with_reducible refine Below.setCell ?_ (by first | omega | (simp; done) | (simp; omega) | (simp at *; omega)) _) | (with_reducible exact Below.refl _ _) | (with_reducible assumption) | (with_reducible refine Below.trans ?_ (Below.mono (by assumption) (by first | omega | (simp; done) | (simp; omega) | (simp at *; omega))))))))) hSS).mono ?_
  rintro e x7 ⟨rfl, hb7⟩
  have hc7 : Below x6.heap.size x6 x7 := hb7
  have hB7 : Below w.heap.size w x7 := hB6.trans (hc7.mono hB6.size)
  have zu7 := hB7.size
  replace PB := Lib.hid (PB.out.below hc7)
  clear PB_6_0 PB_6_1 PB_6_2 PB_6_3 lPB_6 nPB_6 mPB_6
  clear hb7 hB6 zu6 hc6
  obtain ⟨PB_7_0, PB_7_1, PB_7_2, PB_7_3⟩ := b4 PB.out
  have lPB_7 := PB.out.lt
  have nPB_7 : x7.heap.size ≠ w.heap.size := by omega
  have mPB_7 : w.heap.size ≠ x7.heap.size := by omega
  go_wp2_with (first | (go_at_call 43; ((with_reducible refine (isBreath_r _ _ _ hb).mono ?_)); rintro e w' ⟨rfl, rfl⟩) | (go_at_call 20; ((with_reducible refine (bW_r _ _ _ _ _ hl).mono ?_)); rintro e w' ⟨rfl, rfl⟩))
  go_ret
  exact ⟨rfl, hB7⟩
set_option maxRecDepth 100000 in
set_option maxHeartbeats 8000000 in
theorem trc_good (nm : ByteArray) (s : Int) (G : List Ga) (D : List Le) (A B : Option Addr) (gn gc dn dc : Nat) (b t : Int) (N : Nat) (S : Int) (w : World) (hz : nm.size ≤ 9223372036854775807) (hgn : Hid (gn = G.length)) (hgl : gn ≤ 9223372036854775807) (hdn : Hid (dn = D.length)) (hdl : dn ≤ 9223372036854775807) (hG : Hid (SlRows gaV 2 w A G)) (hD : Hid (SlRows leV 3 w B D)) (CG : Hid (A = none → gn = 0 ∧ gc = 0)) (CD : Hid (B = none → dn = 0 ∧ dc = 0)) (hS : Hid (shortB nm.size dn gn = true)) (hE0 : Hid (plnP nm s G D = (N, 0))) (hSS : Hid (secT D dn = S)) (hp : Hid (briefV true 0 (secT D dn) = true)) (hE1 : Hid (rngE b 1 100000 = 0)) (hF2 : Hid ((if 20000 < secT D dn then (8 : Int) else 0) = 0)) (hF3 : Hid (rngE t 0 (secT D dn) = 0)) (hE : Hid (firE [0, 0, 0, 0] = 0)) (hb : Hid (inB b 1 100000 = true)) (h20 : ¬ 20000 < S) (hl : Hid (inB t 0 S = true)) (b0 : 1 ≤ b) (b1 : b ≤ 100000) (t0 : 0 ≤ t) (t1 : t ≤ S) :
    Calls Try.prog 12 #[.agg #[.string nm, .int .i64 s, .slice A gn gc, .slice B dn dc], .int .i64 b, .int .i64 t] w fun e w' => e = .returned (.bool true) ∧ Below w.heap.size w w' := by
  have hok := Lib.hid (pln_ok hE0.out)
  have hS9 : secT D D.length ≤ 20000 := by have := hSS.out; rw [hdn.out] at this; omega
  have hn1 : Hid (gn = (conT b t (legK s G D) gn (List.range dn)).length) := Lib.hid (conT_snocL b t (legK s G D) gn _ (List.range dn) rfl).1.symm
  have hn2 : Hid (gn = (conA b (legK s G D) gn (List.range dn)).length) := Lib.hid (conA_snocL b (legK s G D) gn _ (List.range dn) rfl).1.symm
  have hEQ : Hid (conT b S (legK s G D) gn (List.range dn) = (conA b (legK s G D) gn (List.range dn))) := Lib.hid (by
    have h := conT_end (b := b) (n := gn) hok.out D.length (Nat.le_refl _)
    rw [← hdn.out, hSS.out] at h
    exact h)
  have hLE : Hid (∀ g, (conT b t (legK s G D) gn (List.range dn)).getD g 0 ≤ (conA b (legK s G D) gn (List.range dn)).getD g 0) := Lib.hid (by
    intro g
    rw [← hEQ.out, ← conT_range (Nat.le_of_eq hdn.out), ← conT_range (Nat.le_of_eq hdn.out)]
    exact conT_mono (legC_ok hok.out) (leg_short hok.out hS9) b0 b1 t0 t1 _ _ rfl g)
  have h1S : inB S 0 S = true := inB_true (by omega) (Int.le_refl _)
  have hF3S : Hid (rngE S 0 (secT D dn) = 0) := Lib.hid (by rw [hSS.out]; exact rngE_t h1S)
  have hsb := shortB_le hS.out
  have hz6 : nm.size ≤ 1000000 := by omega
  have hg6 : gn ≤ 1000000 := by omega
  have hd6 : dn ≤ 1000000 := by omega
  go_enter Try.func12, Try.ntmps12
  go_wp2_with fail
  refine (awake_any _).mono ?_
  rintro e x1 ⟨rfl, hb1⟩
  have hc1 : Below w.heap.size w x1 := ((Below.refl _ _).alloc (by first | exact Nat.le_refl _ | (simp; done) | (simp; omega)) _).trans (hb1.mono (by first | exact Nat.le_refl _ | (simp; done) | (simp; omega)))
  have hB1 : Below w.heap.size w x1 := hc1
  have zu1 := hB1.size
  have PB : Hid (BlkF x1 w.heap.size (w.heap.size) [.string nm, .int .i64 s, .slice A gn gc, .slice B dn dc]) := Lib.hid ((BlkF.made (B := w.heap.size) w [.string nm, .int .i64 s, .slice A gn gc, .slice B dn dc] 40 (by first | exact Nat.le_refl _ | (simp; done) | (simp; omega))).below hb1)
  have zPB1 := PB.out.lt
  clear hb1
  obtain ⟨PB_1_0, PB_1_1, PB_1_2, PB_1_3⟩ := b4 PB.out
  have lPB_1 := PB.out.lt
  have nPB_1 : x1.heap.size ≠ w.heap.size := by omega
  have mPB_1 : w.heap.size ≠ x1.heap.size := by omega
  go_wp2_with fail
  refine (Brief_is nm s G D A B gn gc dn dc true true N 0 _ hz hgn hgl hdn hdl (Lib.hid (hG.out.below (by (repeat (first | (with_reducible refine Below.drew ?_) | (with_reducible refine below_drewN ?_ _) | (with_reducible refine Below.alloc ?_ (by first | omega | (simp; done) | (simp; omega) | (simp at *; omega)) _) | (with_reducible refine Below.setCell ?_ (by first | omega | (simp; done) | (simp; omega) | (simp at *; omega)) _) | (with_reducible exact Below.refl _ _) | (with_reducible assumption) | (with_reducible refine Below.trans ?_ (Below.mono (by assumption) (by first | omega | (simp; done) | (simp; omega) | (simp at *; omega))))))))) (Lib.hid (hD.out.below (by (repeat (first | (with_reducible refine Below.drew ?_) | (with_reducible refine below_drewN ?_ _) | (with_reducible refine Below.alloc ?_ (by first | omega | (simp; done) | (simp; omega) | (simp at *; omega)) _) | (with_reducible refine Below.setCell ?_ (by first | omega | (simp; done) | (simp; omega) | (simp at *; omega)) _) | (with_reducible exact Below.refl _ _) | (with_reducible assumption) | (with_reducible refine Below.trans ?_ (Below.mono (by assumption) (by first | omega | (simp; done) | (simp; omega) | (simp at *; omega))))))))) hS hE0 hp).mono ?_
  rintro e x2 ⟨rfl, hb2⟩
  have hc2 : Below x1.heap.size x1 x2 := hb2
  have hB2 : Below w.heap.size w x2 := hB1.trans (hc2.mono hB1.size)
  have zu2 := hB2.size
  replace PB := Lib.hid (PB.out.below hc2)
  clear PB_1_0 PB_1_1 PB_1_2 PB_1_3 lPB_1 nPB_1 mPB_1
  clear hb2 hB1 zu1 hc1
  obtain ⟨PB_2_0, PB_2_1, PB_2_2, PB_2_3⟩ := b4 PB.out
  have lPB_2 := PB.out.lt
  have nPB_2 : x2.heap.size ≠ w.heap.size := by omega
  have mPB_2 : w.heap.size ≠ x2.heap.size := by omega
  go_wp2_with fail
  refine (copyP_is nm s G D A B gn gc dn dc _ hgn hdn hg6 hd6 (Lib.hid (hG.out.below (by (repeat (first | (with_reducible refine Below.drew ?_) | (with_reducible refine below_drewN ?_ _) | (with_reducible refine Below.alloc ?_ (by first | omega | (simp; done) | (simp; omega) | (simp at *; omega)) _) | (with_reducible refine Below.setCell ?_ (by first | omega | (simp; done) | (simp; omega) | (simp at *; omega)) _) | (with_reducible exact Below.refl _ _) | (with_reducible assumption) | (with_reducible refine Below.trans ?_ (Below.mono (by assumption) (by first | omega | (simp; done) | (simp; omega) | (simp at *; omega))))))))) (Lib.hid (hD.out.below (by (repeat (first | (with_reducible refine Below.drew ?_) | (with_reducible refine below_drewN ?_ _) | (with_reducible refine Below.alloc ?_ (by first | omega | (simp; done) | (simp; omega) | (simp at *; omega)) _) | (with_reducible refine Below.setCell ?_ (by first | omega | (simp; done) | (simp; omega) | (simp at *; omega)) _) | (with_reducible exact Below.refl _ _) | (with_reducible assumption) | (with_reducible refine Below.trans ?_ (Below.mono (by assumption) (by first | omega | (simp; done) | (simp; omega) | (simp at *; omega))))))))) CG CD).mono ?_
  rintro e x3 ⟨A1, ca1, B1, cb1, rfl, hsg, hsd, hna, hnb, hb3⟩
  have hc3 : Below x2.heap.size x2 x3 := hb3
  have hB3 : Below w.heap.size w x3 := hB2.trans (hc3.mono hB2.size)
  have zu3 := hB3.size
  replace PB := Lib.hid (PB.out.below hc3)
  have HG1 := Lib.hid hsg
  have HD1 := Lib.hid hsd
  clear hsg hsd hna hnb
  clear PB_2_0 PB_2_1 PB_2_2 PB_2_3 lPB_2 nPB_2 mPB_2
  clear hb3 hB2 zu2 hc2
  obtain ⟨PB_3_0, PB_3_1, PB_3_2, PB_3_3⟩ := b4 PB.out
  have lPB_3 := PB.out.lt
  have nPB_3 : x3.heap.size ≠ w.heap.size := by omega
  have mPB_3 : w.heap.size ≠ x3.heap.size := by omega
  go_wp2_with fail
  refine (cl_good (ConsumedAt_any nm s G D A1 B1 gn ca1 dn cb1 N b t 0 0 0 0 0 _ hz hgn hgl hdn hdl HG1 HD1 hE0 hE1 hF2 hF3 hE) rfl).mono ?_
  rintro e x4 ⟨C9, rfl, hsC, hC9, hb4⟩
  have hc4 : Below x3.heap.size x3 x4 := hb4
  have hB4 : Below w.heap.size w x4 := hB3.trans (hc4.mono hB3.size)
  have zu4 := hB4.size
  replace HG1 := Lib.hid (HG1.out.below hc4)
  replace HD1 := Lib.hid (HD1.out.below hc4)
  replace PB := Lib.hid (PB.out.below hc4)
  have HC := Lib.hid hsC
  clear hsC hC9
  clear PB_3_0 PB_3_1 PB_3_2 PB_3_3 lPB_3 nPB_3 mPB_3
  clear hb4 hB3 zu3 hc3
  obtain ⟨PB_4_0, PB_4_1, PB_4_2, PB_4_3⟩ := b4 PB.out
  have lPB_4 := PB.out.lt
  have nPB_4 : x4.heap.size ≠ w.heap.size := by omega
  have mPB_4 : w.heap.size ≠ x4.heap.size := by omega
  clear HG1
  clear HD1
  go_wp2_with fail
  refine (refErr_any nm s G D A B gn gc dn dc N 0 _ hz6 hgn hgl hdn hdl (Lib.hid (hG.out.below (by (repeat (first | (with_reducible refine Below.drew ?_) | (with_reducible refine below_drewN ?_ _) | (with_reducible refine Below.alloc ?_ (by first | omega | (simp; done) | (simp; omega) | (simp at *; omega)) _) | (with_reducible refine Below.setCell ?_ (by first | omega | (simp; done) | (simp; omega) | (simp at *; omega)) _) | (with_reducible exact Below.refl _ _) | (with_reducible assumption) | (with_reducible refine Below.trans ?_ (Below.mono (by assumption) (by first | omega | (simp; done) | (simp; omega) | (simp at *; omega))))))))) (Lib.hid (hD.out.below (by (repeat (first | (with_reducible refine Below.drew ?_) | (with_reducible refine below_drewN ?_ _) | (with_reducible refine Below.alloc ?_ (by first | omega | (simp; done) | (simp; omega) | (simp at *; omega)) _) | (with_reducible refine Below.setCell ?_ (by first | omega | (simp; done) | (simp; omega) | (simp at *; omega)) _) | (with_reducible exact Below.refl _ _) | (with_reducible assumption) | (with_reducible refine Below.trans ?_ (Below.mono (by assumption) (by first | omega | (simp; done) | (simp; omega) | (simp at *; omega))))))))) hE0).mono ?_
  rintro e x5 ⟨rfl, hb5⟩
  have hc5 : Below x4.heap.size x4 x5 := hb5
  have hB5 : Below w.heap.size w x5 := hB4.trans (hc5.mono hB4.size)
  have zu5 := hB5.size
  replace HC := Lib.hid (HC.out.below hc5)
  replace PB := Lib.hid (PB.out.below hc5)
  clear PB_4_0 PB_4_1 PB_4_2 PB_4_3 lPB_4 nPB_4 mPB_4
  clear hb5 hB4 zu4 hc4
  obtain ⟨PB_5_0, PB_5_1, PB_5_2, PB_5_3⟩ := b4 PB.out
  have lPB_5 := PB.out.lt
  have nPB_5 : x5.heap.size ≠ w.heap.size := by omega
  have mPB_5 : w.heap.size ≠ x5.heap.size := by omega
  go_wp2_with (first | (go_at_call 43; ((with_reducible refine (isBreath_r _ _ _ hb).mono ?_)); rintro e w' ⟨rfl, rfl⟩) | (go_at_call 20; ((with_reducible refine (bW_r _ _ _ _ _ hl).mono ?_)); rintro e w' ⟨rfl, rfl⟩))
  refine (refSeconds_is nm s G D A B gn gc dn dc S _ hgn hdn hok (Lib.hid (hG.out.below (by (repeat (first | (with_reducible refine Below.drew ?_) | (with_reducible refine below_drewN ?_ _) | (with_reducible refine Below.alloc ?_ (by first | omega | (simp; done) | (simp; omega) | (simp at *; omega)) _) | (with_reducible refine Below.setCell ?_ (by first | omega | (simp; done) | (simp; omega) | (simp at *; omega)) _) | (with_reducible exact Below.refl _ _) | (with_reducible assumption) | (with_reducible refine Below.trans ?_ (Below.mono (by assumption) (by first | omega | (simp; done) | (simp; omega) | (simp at *; omega))))))))) (Lib.hid (hD.out.below (by (repeat (first | (with_reducible refine Below.drew ?_) | (with_reducible refine below_drewN ?_ _) | (with_reducible refine Below.alloc ?_ (by first | omega | (simp; done) | (simp; omega) | (simp at *; omega)) _) | (with_reducible refine Below.setCell ?_ (by first | omega | (simp; done) | (simp; omega) | (simp at *; omega)) _) | (with_reducible exact Below.refl _ _) | (with_reducible assumption) | (with_reducible refine Below.trans ?_ (Below.mono (by assumption) (by first | omega | (simp; done) | (simp; omega) | (simp at *; omega))))))))) hSS).mono ?_
  rintro e x6 ⟨rfl, hb6⟩
  have hc6 : Below x5.heap.size x5 x6 := hb6
  have hB6 : Below w.heap.size w x6 := hB5.trans (hc6.mono hB5.size)
  have zu6 := hB6.size
  replace HC := Lib.hid (HC.out.below hc6)
  replace PB := Lib.hid (PB.out.below hc6)
  clear PB_5_0 PB_5_1 PB_5_2 PB_5_3 lPB_5 nPB_5 mPB_5
  clear hb6 hB5 zu5 hc5
  obtain ⟨PB_6_0, PB_6_1, PB_6_2, PB_6_3⟩ := b4 PB.out
  have lPB_6 := PB.out.lt
  have nPB_6 : x6.heap.size ≠ w.heap.size := by omega
  have mPB_6 : w.heap.size ≠ x6.heap.size := by omega
  go_wp2_with (first | (go_at_call 43; ((with_reducible refine (isBreath_r _ _ _ hb).mono ?_)); rintro e w' ⟨rfl, rfl⟩) | (go_at_call 20; ((with_reducible refine (bW_r _ _ _ _ _ hl).mono ?_)); rintro e w' ⟨rfl, rfl⟩))
  refine (refSeconds_is nm s G D A B gn gc dn dc S _ hgn hdn hok (Lib.hid (hG.out.below (by (repeat (first | (with_reducible refine Below.drew ?_) | (with_reducible refine below_drewN ?_ _) | (with_reducible refine Below.alloc ?_ (by first | omega | (simp; done) | (simp; omega) | (simp at *; omega)) _) | (with_reducible refine Below.setCell ?_ (by first | omega | (simp; done) | (simp; omega) | (simp at *; omega)) _) | (with_reducible exact Below.refl _ _) | (with_reducible assumption) | (with_reducible refine Below.trans ?_ (Below.mono (by assumption) (by first | omega | (simp; done) | (simp; omega) | (simp at *; omega))))))))) (Lib.hid (hD.out.below (by (repeat (first | (with_reducible refine Below.drew ?_) | (with_reducible refine below_drewN ?_ _) | (with_reducible refine Below.alloc ?_ (by first | omega | (simp; done) | (simp; omega) | (simp at *; omega)) _) | (with_reducible refine Below.setCell ?_ (by first | omega | (simp; done) | (simp; omega) | (simp at *; omega)) _) | (with_reducible exact Below.refl _ _) | (with_reducible assumption) | (with_reducible refine Below.trans ?_ (Below.mono (by assumption) (by first | omega | (simp; done) | (simp; omega) | (simp at *; omega))))))))) hSS).mono ?_
  rintro e x7 ⟨rfl, hb7⟩
  have hc7 : Below x6.heap.size x6 x7 := hb7
  have hB7 : Below w.heap.size w x7 := hB6.trans (hc7.mono hB6.size)
  have zu7 := hB7.size
  replace HC := Lib.hid (HC.out.below hc7)
  replace PB := Lib.hid (PB.out.below hc7)
  clear PB_6_0 PB_6_1 PB_6_2 PB_6_3 lPB_6 nPB_6 mPB_6
  clear hb7 hB6 zu6 hc6
  obtain ⟨PB_7_0, PB_7_1, PB_7_2, PB_7_3⟩ := b4 PB.out
  have lPB_7 := PB.out.lt
  have nPB_7 : x7.heap.size ≠ w.heap.size := by omega
  have mPB_7 : w.heap.size ≠ x7.heap.size := by omega
  go_wp2_with (first | (go_at_call 43; ((with_reducible refine (isBreath_r _ _ _ hb).mono ?_)); rintro e w' ⟨rfl, rfl⟩) | (go_at_call 20; ((with_reducible refine (bW_r _ _ _ _ _ hl).mono ?_)); rintro e w' ⟨rfl, rfl⟩))
  refine (refConsumedAt_is nm s G D A B gn gc dn dc b t _ hgn hdn hok (Lib.hid (hG.out.below (by (repeat (first | (with_reducible refine Below.drew ?_) | (with_reducible refine below_drewN ?_ _) | (with_reducible refine Below.alloc ?_ (by first | omega | (simp; done) | (simp; omega) | (simp at *; omega)) _) | (with_reducible refine Below.setCell ?_ (by first | omega | (simp; done) | (simp; omega) | (simp at *; omega)) _) | (with_reducible exact Below.refl _ _) | (with_reducible assumption) | (with_reducible refine Below.trans ?_ (Below.mono (by assumption) (by first | omega | (simp; done) | (simp; omega) | (simp at *; omega))))))))) (Lib.hid (hD.out.below (by (repeat (first | (with_reducible refine Below.drew ?_) | (with_reducible refine below_drewN ?_ _) | (with_reducible refine Below.alloc ?_ (by first | omega | (simp; done) | (simp; omega) | (simp at *; omega)) _) | (with_reducible refine Below.setCell ?_ (by first | omega | (simp; done) | (simp; omega) | (simp at *; omega)) _) | (with_reducible exact Below.refl _ _) | (with_reducible assumption) | (with_reducible refine Below.trans ?_ (Below.mono (by assumption) (by first | omega | (simp; done) | (simp; omega) | (simp at *; omega))))))))) b0 b1 t0 (by omega) hS9).mono ?_
  rintro e x8 ⟨C8, rfl, hsD, hb8⟩
  have hc8 : Below x7.heap.size x7 x8 := hb8
  have hB8 : Below w.heap.size w x8 := hB7.trans (hc8.mono hB7.size)
  have zu8 := hB8.size
  replace HC := Lib.hid (HC.out.below hc8)
  replace PB := Lib.hid (PB.out.below hc8)
  have HD8 := Lib.hid hsD
  clear hsD
  clear PB_7_0 PB_7_1 PB_7_2 PB_7_3 lPB_7 nPB_7 mPB_7
  clear hb8 hB7 zu7 hc7
  obtain ⟨PB_8_0, PB_8_1, PB_8_2, PB_8_3⟩ := b4 PB.out
  have lPB_8 := PB.out.lt
  have nPB_8 : x8.heap.size ≠ w.heap.size := by omega
  have mPB_8 : w.heap.size ≠ x8.heap.size := by omega
  go_wp2_with fail
  refine (Ints_same (conT b t (legK s G D) gn (List.range dn)) (some ⟨C9, 0, none⟩) (some ⟨C8, 0, none⟩) gn gn gn _ hn1 hg6 HC HD8).mono ?_
  rintro e x9 ⟨rfl, hb9⟩
  have hc9 : Below x8.heap.size x8 x9 := hb9
  have hB9 : Below w.heap.size w x9 := hB8.trans (hc9.mono hB8.size)
  have zu9 := hB9.size
  replace HC := Lib.hid (HC.out.below hc9)
  replace HD8 := Lib.hid (HD8.out.below hc9)
  replace PB := Lib.hid (PB.out.below hc9)
  clear PB_8_0 PB_8_1 PB_8_2 PB_8_3 lPB_8 nPB_8 mPB_8
  clear hb9 hB8 zu8 hc8
  obtain ⟨PB_9_0, PB_9_1, PB_9_2, PB_9_3⟩ := b4 PB.out
  have lPB_9 := PB.out.lt
  have nPB_9 : x9.heap.size ≠ w.heap.size := by omega
  have mPB_9 : w.heap.size ≠ x9.heap.size := by omega
  clear HD8
  go_upto_region 17 with ((first | (go_at_call 43; ((with_reducible refine (isBreath_r _ _ _ hb).mono ?_)); rintro e w' ⟨rfl, rfl⟩) | (go_at_call 20; ((with_reducible refine (bW_r _ _ _ _ _ hl).mono ?_)); rintro e w' ⟨rfl, rfl⟩)))
  have HS : Hid (∀ y, Below x9.heap.size x9 y → y.cell? ⟨w.heap.size, 0, none⟩ = some (.string nm) ∧ y.cell? ⟨w.heap.size, 1, none⟩ = some (.int .i64 s) ∧ y.cell? ⟨w.heap.size, 2, none⟩ = some (.slice A gn gc) ∧ y.cell? ⟨w.heap.size, 3, none⟩ = some (.slice B dn dc)) := Lib.hid fun y hy => ⟨(hy.cell (p := ⟨w.heap.size, 0, none⟩) lPB_9).trans PB_9_0, (hy.cell (p := ⟨w.heap.size, 1, none⟩) lPB_9).trans PB_9_1, (hy.cell (p := ⟨w.heap.size, 2, none⟩) lPB_9).trans PB_9_2, (hy.cell (p := ⟨w.heap.size, 3, none⟩) lPB_9).trans PB_9_3⟩
  refine wp_region_held_drew (S := (fun w' => w'.cell? ⟨w.heap.size, 0, none⟩ = some (.string nm) ∧ w'.cell? ⟨w.heap.size, 1, none⟩ = some (.int .i64 s) ∧ w'.cell? ⟨w.heap.size, 2, none⟩ = some (.slice A gn gc) ∧ w'.cell? ⟨w.heap.size, 3, none⟩ = some (.slice B dn dc))) (by kernel_rfl) (HS.out _ (Below.refl _ _).drew) (fun hHeld => ?_)
  have hT0 : Below x9.heap.size x9 x9.drew := (Below.refl _ _).drew
  generalize hdr : x9.drew = y9v0 at *
  clear hdr
  refine tkH 0 ⟨some 75, _, _, _, _, _⟩ ?_ rfl ?_ (by assumption) ?_
  rotate_left
  · (intro w hSw; (try dsimp only at hSw); go_simp; all_goals with_reducible rfl)
  try simp only [Act.put, sA, sB, sC]
  refine tkH 2 ⟨some 77, _, _, _, _, _⟩ ?_ rfl ?_ (by assumption) ?_
  rotate_left
  · (intro w hSw; (try dsimp only at hSw); go_simp; all_goals with_reducible rfl)
  try simp only [Act.put, sA, sB, sC]
  refine tkH 3 ⟨some 78, _, _, _, _, _⟩ ?_ rfl ?_ (by assumption) ?_
  rotate_left
  · (intro w hSw; (try dsimp only at hSw); go_simp; all_goals with_reducible rfl)
  try simp only [Act.put, sA, sB, sC]
  refine wpAnyH_ready (rs := [1]) (by kernel_rfl) (by simp) ?_
  refine AllReadyH.cons rfl (fun K hK => ?_) (AllReadyH.nil)
  go_simp
  refine (copyP_is nm s G D A B gn gc dn dc _ hgn hdn hg6 hd6 (Lib.hid (hG.out.below (hB9.trans (hT0.mono hB9.size)))) (Lib.hid (hD.out.below (hB9.trans (hT0.mono hB9.size)))) CG CD).mono ?_
  rintro e y9v1 ⟨A2, ca2, B2, cb2, rfl, hsg, hsd, hna, hnb, hby9v0⟩
  have hT1 : Below x9.heap.size x9 y9v1 := hT0.trans (hby9v0.mono hT0.size)
  have HG2 := Lib.hid hsg
  have HD2 := Lib.hid hsd
  clear hsg hsd hna hnb
  clear hby9v0
  go_wp2_with fail
  refine hK.out _ _ (HS.out _ hT1) (fun hHeld => ?_)
  clear hK K
  try simp only [Act.put, sA, sB, sC]
  refine wpAnyH_ready (rs := [4]) (by kernel_rfl) (by simp) ?_
  refine AllReadyH.cons rfl (fun K hK => ?_) (AllReadyH.nil)
  go_simp
  refine (refSeconds_is nm s G D A B gn gc dn dc S _ hgn hdn hok (Lib.hid (hG.out.below (hB9.trans (hT1.mono hB9.size)))) (Lib.hid (hD.out.below (hB9.trans (hT1.mono hB9.size)))) hSS).mono ?_
  rintro e y9v2 ⟨rfl, hby9v1⟩
  have hT2 : Below x9.heap.size x9 y9v2 := hT1.trans (hby9v1.mono hT1.size)
  replace HG2 := Lib.hid (HG2.out.below hby9v1)
  replace HD2 := Lib.hid (HD2.out.below hby9v1)
  clear hby9v1
  go_wp2_with fail
  refine hK.out _ _ (HS.out _ hT2) (fun hHeld => ?_)
  clear hK K
  try simp only [Act.put, sA, sB, sC]
  refine wpAnyH_ready (rs := [5]) (by kernel_rfl) (by simp) ?_
  refine AllReadyH.cons rfl (fun K hK => ?_) (AllReadyH.nil)
  go_simp
  refine (cl_good (ConsumedAt_any nm s G D A2 B2 gn ca2 dn cb2 N b S 0 0 0 0 0 _ hz hgn hgl hdn hdl HG2 HD2 hE0 hE1 hF2 hF3S hE) rfl).mono ?_
  rintro e y9v3 ⟨C7, rfl, hsC, hC7, hby9v2⟩
  have hT3 : Below x9.heap.size x9 y9v3 := hT2.trans (hby9v2.mono hT2.size)
  replace HG2 := Lib.hid (HG2.out.below hby9v2)
  replace HD2 := Lib.hid (HD2.out.below hby9v2)
  rw [hEQ.out] at hsC
  have HA := Lib.hid hsC
  clear hsC hC7
  clear hby9v2
  go_wp2_with fail
  refine hK.out _ _ (HS.out _ hT3) (fun hHeld => ?_)
  clear hK K
  try simp only [Act.put, sA, sB, sC]
  refine tkH 6 ⟨some 74, _, _, _, _, _⟩ ?_ rfl ?_ (by assumption) ?_
  rotate_left
  · (intro w hSw; (try dsimp only at hSw); go_simp; all_goals with_reducible rfl)
  try simp only [Act.put, sA, sB, sC]
  refine tkH 7 ⟨some 81, _, _, _, _, _⟩ ?_ rfl ?_ (by assumption) ?_
  rotate_left
  · (intro w hSw; (try dsimp only at hSw); go_simp; all_goals with_reducible rfl)
  try simp only [Act.put, sA, sB, sC]
  refine tkH 8 ⟨some 82, _, _, _, _, _⟩ ?_ rfl ?_ (by assumption) ?_
  rotate_left
  · (intro w hSw; (try dsimp only at hSw); go_simp; all_goals with_reducible rfl)
  try simp only [Act.put, sA, sB, sC]
  refine tkH 9 ⟨some 10, _, _, _, _, _⟩ ?_ rfl ?_ (by assumption) ?_
  rotate_left
  · (intro w hSw; (try dsimp only at hSw); go_simp; all_goals with_reducible rfl)
  try simp only [Act.put, sA, sB, sC]
  refine tkH 10 ⟨some 11, _, _, _, _, _⟩ ?_ rfl ?_ (by assumption) ?_
  rotate_left
  · (intro w hSw; (try dsimp only at hSw); go_simp; all_goals with_reducible rfl)
  try simp only [Act.put, sA, sB, sC]
  refine wpAnyH_done (by kernel_rfl) ?_ _
  have hc10 : Below x9.heap.size x9 y9v3 := hT3
  have hB10 : Below w.heap.size w y9v3 := hB9.trans (hc10.mono hB9.size)
  have zu10 := hB10.size
  replace HC := Lib.hid (HC.out.below hc10)
  replace PB := Lib.hid (PB.out.below hc10)
  clear PB_9_0 PB_9_1 PB_9_2 PB_9_3 lPB_9 nPB_9 mPB_9
  clear HS hHeld hT0 hT1 hT2 hT3 hB9 zu9 hc9
  obtain ⟨PB_10_0, PB_10_1, PB_10_2, PB_10_3⟩ := b4 PB.out
  have lPB_10 := PB.out.lt
  have nPB_10 : y9v3.heap.size ≠ w.heap.size := by omega
  have mPB_10 : w.heap.size ≠ y9v3.heap.size := by omega
  clear HG2
  clear HD2
  go_wp2_with fail
  refine (copyP_is nm s G D A B gn gc dn dc _ hgn hdn hg6 hd6 (Lib.hid (hG.out.below (by (repeat (first | (with_reducible refine Below.drew ?_) | (with_reducible refine below_drewN ?_ _) | (with_reducible refine Below.alloc ?_ (by first | omega | (simp; done) | (simp; omega) | (simp at *; omega)) _) | (with_reducible refine Below.setCell ?_ (by first | omega | (simp; done) | (simp; omega) | (simp at *; omega)) _) | (with_reducible exact Below.refl _ _) | (with_reducible assumption) | (with_reducible refine Below.trans ?_ (Below.mono (by assumption) (by first | omega | (simp; done) | (simp; omega) | (simp at *; omega))))))))) (Lib.hid (hD.out.below (by (repeat (first | (with_reducible refine Below.drew ?_) | (with_reducible refine below_drewN ?_ _) | (with_reducible refine Below.alloc ?_ (by first | omega | (simp; done) | (simp; omega) | (simp at *; omega)) _) | (with_reducible refine Below.setCell ?_ (by first | omega | (simp; done) | (simp; omega) | (simp at *; omega)) _) | (with_reducible exact Below.refl _ _) | (with_reducible assumption) | (with_reducible refine Below.trans ?_ (Below.mono (by assumption) (by first | omega | (simp; done) | (simp; omega) | (simp at *; omega))))))))) CG CD).mono ?_
  rintro e x11 ⟨A3, ca3, B3, cb3, rfl, hsg, hsd, hna, hnb, hb11⟩
  have hc11 : Below y9v3.heap.size y9v3 x11 := hb11
  have hB11 : Below w.heap.size w x11 := hB10.trans (hc11.mono hB10.size)
  have zu11 := hB11.size
  replace HC := Lib.hid (HC.out.below hc11)
  replace HA := Lib.hid (HA.out.below hc11)
  replace PB := Lib.hid (PB.out.below hc11)
  have HG3 := Lib.hid hsg
  have HD3 := Lib.hid hsd
  clear hsg hsd hna hnb
  clear PB_10_0 PB_10_1 PB_10_2 PB_10_3 lPB_10 nPB_10 mPB_10
  clear hb11 hB10 zu10 hc10
  obtain ⟨PB_11_0, PB_11_1, PB_11_2, PB_11_3⟩ := b4 PB.out
  have lPB_11 := PB.out.lt
  have nPB_11 : x11.heap.size ≠ w.heap.size := by omega
  have mPB_11 : w.heap.size ≠ x11.heap.size := by omega
  go_wp2_with fail
  refine (cl_good (Consumed_any nm s G D A3 B3 gn ca3 dn cb3 N 0 b 0 0 _ hz hgn hgl hdn hdl HG3 HD3 hE0 hE1 (Lib.hid rfl)) rfl).mono ?_
  rintro e x12 ⟨C6, rfl, hsC, hC6, hb12⟩
  have hc12 : Below x11.heap.size x11 x12 := hb12
  have hB12 : Below w.heap.size w x12 := hB11.trans (hc12.mono hB11.size)
  have zu12 := hB12.size
  replace HC := Lib.hid (HC.out.below hc12)
  replace HA := Lib.hid (HA.out.below hc12)
  replace HG3 := Lib.hid (HG3.out.below hc12)
  replace HD3 := Lib.hid (HD3.out.below hc12)
  replace PB := Lib.hid (PB.out.below hc12)
  have HW := Lib.hid hsC
  clear hsC hC6
  clear PB_11_0 PB_11_1 PB_11_2 PB_11_3 lPB_11 nPB_11 mPB_11
  clear hb12 hB11 zu11 hc11
  obtain ⟨PB_12_0, PB_12_1, PB_12_2, PB_12_3⟩ := b4 PB.out
  have lPB_12 := PB.out.lt
  have nPB_12 : x12.heap.size ≠ w.heap.size := by omega
  have mPB_12 : w.heap.size ≠ x12.heap.size := by omega
  clear HG3
  clear HD3
  go_wp2_with fail
  refine (Ints_same (conA b (legK s G D) gn (List.range dn)) (some ⟨C7, 0, none⟩) (some ⟨C6, 0, none⟩) gn gn gn _ hn2 hg6 HA HW).mono ?_
  rintro e x13 ⟨rfl, hb13⟩
  have hc13 : Below x12.heap.size x12 x13 := hb13
  have hB13 : Below w.heap.size w x13 := hB12.trans (hc13.mono hB12.size)
  have zu13 := hB13.size
  replace HC := Lib.hid (HC.out.below hc13)
  replace HA := Lib.hid (HA.out.below hc13)
  replace HW := Lib.hid (HW.out.below hc13)
  replace PB := Lib.hid (PB.out.below hc13)
  clear PB_12_0 PB_12_1 PB_12_2 PB_12_3 lPB_12 nPB_12 mPB_12
  clear hb13 hB12 zu12 hc12
  obtain ⟨PB_13_0, PB_13_1, PB_13_2, PB_13_3⟩ := b4 PB.out
  have lPB_13 := PB.out.lt
  have nPB_13 : x13.heap.size ≠ w.heap.size := by omega
  have mPB_13 : w.heap.size ≠ x13.heap.size := by omega
  clear HW
  clear PB_13_0 PB_13_1 PB_13_2 PB_13_3 lPB_13 nPB_13 mPB_13
  obtain ⟨L1, hL1⟩ : ∃ z, Hid ((conT b t (legK s G D) gn (List.range dn)) = z) := ⟨_, Lib.hid rfl⟩
  obtain ⟨L2, hL2⟩ : ∃ z, Hid ((conA b (legK s G D) gn (List.range dn)) = z) := ⟨_, Lib.hid rfl⟩
  rw [hL1.out] at HC hn1 hLE
  rw [hL2.out] at HA hn2 hLE
  have HBX := Lib.hid hB13
  clear hL1 hL2 hEQ hF3S hB13 zu13 hc13
  go_wp2_with fail
  go_loopw [14] (fun i wr => ∃ j : Nat, j ≤ gn ∧ i = .int .i64 j ∧ Below x13.heap.size x13 wr) (fun i _ => gn - (intOf i).toNat)
  case atStart => exact ⟨0, by omega, rfl, Below.refl _ _⟩
  case round =>
    obtain ⟨j, hj, rfl, hB⟩ := hrel
    by_cases hkn : j < gn
    · have kn : (j : Int) < (gn : Int) := by omega
      have k0 : ¬ (j : Int) < 0 := by omega
      have k1 : j < L1.length := by have := hn1.out; omega
      have k2 : j < L2.length := by have := hn2.out; omega
      obtain ⟨ab, ao, ea, la, ra⟩ := HC.out.at' k1
      obtain ⟨bb, bo, eb, lb, rb⟩ := HA.out.at' k2
      cases ea
      cases eb
      obtain ⟨x, hx⟩ : ∃ z, Hid (L1.getD j 0 = z) := ⟨_, Lib.hid rfl⟩
      obtain ⟨y, hy⟩ : ∃ z, Hid (L2.getD j 0 = z) := ⟨_, Lib.hid rfl⟩
      have c0 := ra j k1 0 (by omega)
      have c1 := rb j k2 0 (by omega)
      rw [show (inV L1[j])[0]? = some (.int .i64 x) by rw [← hx.out, List.getD_eq_getElem?_getD, List.getElem?_eq_getElem k1]; rfl] at c0
      rw [show (inV L2[j])[0]? = some (.int .i64 y) by rw [← hy.out, List.getD_eq_getElem?_getD, List.getElem?_eq_getElem k2]; rfl] at c1
      rw [show 0 + j * 1 + 0 = j by omega] at c0 c1
      have hxy : ¬ y < x := by have := hLE.out j; rw [hx.out, hy.out] at this; omega
      have HS : Hid (∀ z, Below wr.heap.size wr z → z.cell? ⟨C9, j, none⟩ = some (.int .i64 x) ∧ z.cell? ⟨C7, j, none⟩ = some (.int .i64 y)) := Lib.hid fun z hz => ⟨((hB.trans (hz.mono hB.size)).cell (p := ⟨C9, _, none⟩) la).trans c0, ((hB.trans (hz.mono hB.size)).cell (p := ⟨C7, _, none⟩) lb).trans c1⟩
      have hwk : IntKind.i64.wrap ((j : Int) + 1) = (j : Int) + 1 := IntWalk.i64_in _ (by omega)
      clear c0 c1 ra rb
      go_upto_region 24 with (fail)
      refine wp_region_held_drew (S := (fun w' => w'.cell? ⟨C9, j, none⟩ = some (.int .i64 x) ∧ w'.cell? ⟨C7, j, none⟩ = some (.int .i64 y))) (by kernel_rfl) (HS.out _ (Below.refl _ _).drew) (fun hHeld => ?_)
      have hT0 : Below wr.heap.size wr wr.drew := (Below.refl _ _).drew
      generalize hdr : wr.drew = v0 at *
      clear hdr
      refine tkH 0 ⟨some 115, _, _, _, _, _⟩ ?_ rfl ?_ (by assumption) ?_
      rotate_left
      · (intro w hSw; (try dsimp only at hSw); go_simp; all_goals with_reducible rfl)
      try simp only [Act.put, sA, sB, sC]
      refine tkH 1 ⟨some 116, _, _, _, _, _⟩ ?_ rfl ?_ (by assumption) ?_
      rotate_left
      · (intro w hSw; (try dsimp only at hSw); go_simp; all_goals with_reducible rfl)
      try simp only [Act.put, sA, sB, sC]
      refine tkH 2 ⟨some 117, _, _, _, _, _⟩ ?_ rfl ?_ (by assumption) ?_
      rotate_left
      · (intro w hSw; (try dsimp only at hSw); go_simp; all_goals with_reducible rfl)
      try simp only [Act.put, sA, sB, sC]
      refine tkH 3 ⟨some 118, _, _, _, _, _⟩ ?_ rfl ?_ (by assumption) ?_
      rotate_left
      · (intro w hSw; (try dsimp only at hSw); go_simp; all_goals with_reducible rfl)
      try simp only [Act.put, sA, sB, sC]
      refine tkH 4 ⟨some 119, _, _, _, _, _⟩ ?_ rfl ?_ (by assumption) ?_
      rotate_left
      · (intro w hSw; (try dsimp only at hSw); go_simp; all_goals with_reducible rfl)
      try simp only [Act.put, sA, sB, sC]
      refine tkH 5 ⟨some 120, _, _, _, _, _⟩ ?_ rfl ?_ (by assumption) ?_
      rotate_left
      · (intro w hSw; (try dsimp only at hSw); go_simp; all_goals with_reducible rfl)
      try simp only [Act.put, sA, sB, sC]
      refine tkH 6 ⟨some 121, _, _, _, _, _⟩ ?_ rfl ?_ (by assumption) ?_
      rotate_left
      · (intro w hSw; (try dsimp only at hSw); go_simp; all_goals with_reducible rfl)
      try simp only [Act.put, sA, sB, sC]
      refine tkH 7 ⟨some 122, _, _, _, _, _⟩ ?_ rfl ?_ (by assumption) ?_
      rotate_left
      · (intro w hSw; (try dsimp only at hSw); go_simp; all_goals with_reducible rfl)
      try simp only [Act.put, sA, sB, sC]
      refine tkH 8 ⟨some 123, _, _, _, _, _⟩ ?_ rfl ?_ (by assumption) ?_
      rotate_left
      · (intro w hSw; (try dsimp only at hSw); go_simp; all_goals with_reducible rfl)
      try simp only [Act.put, sA, sB, sC]
      refine wpAnyH_done (by kernel_rfl) ?_ _
      have hT := hT0
      obtain ⟨z, rfl⟩ : ∃ z, z = v0 := ⟨_, rfl⟩
      clear hHeld HS
      have hBz := Lib.hid (hB.trans (hT.mono hB.size))
      clear hT
      go_wp2
      go_roundw
      case rel => exact ⟨j + 1, by omega, by go_num, hBz.out⟩
      case measure => simp [intOf]; omega
    · have kn : ¬ (j : Int) < (gn : Int) := by omega
      go_wp2
      go_ret
      exact ⟨rfl, HBX.out.trans (hB.mono HBX.out.size)⟩
theorem exposureTraces_r (nm : ByteArray) (s : Int) (G : List Ga) (D : List Le) (A B : Option Addr) (gn gc dn dc : Nat) (b t : Int) (w : World) (hz : nm.size ≤ 9223372036854775807) (hgn : Hid (gn = G.length)) (hgl : gn ≤ 9223372036854775807) (hdn : Hid (dn = D.length)) (hdl : dn ≤ 9223372036854775807) (hG : Hid (SlRows gaV 2 w A G)) (hD : Hid (SlRows leV 3 w B D)) (CG : Hid (A = none → gn = 0 ∧ gc = 0)) (CD : Hid (B = none → dn = 0 ∧ dc = 0)) :
    Calls Try.prog 12 #[.agg #[.string nm, .int .i64 s, .slice A gn gc, .slice B dn dc], .int .i64 b, .int .i64 t] w fun e w' => e = .returned (.bool true) ∧ Below w.heap.size w w' := by
  obtain ⟨sb, hS⟩ : ∃ z, shortB nm.size dn gn = z := ⟨_, rfl⟩
  obtain ⟨N, E0, hE0⟩ : ∃ N E0, plnP nm s G D = (N, E0) := ⟨_, _, rfl⟩
  obtain ⟨S, hSS⟩ : ∃ z, secT D dn = z := ⟨_, rfl⟩
  cases hp : briefV sb E0 (secT D dn) with
  | false => exact trc_out nm s G D A B gn gc dn dc b t sb N E0 S w hz hgn hgl hdn hdl hG hD CG CD (Lib.hid hS) (Lib.hid hE0) (Lib.hid hSS) (Lib.hid hp)
  | true =>
    obtain rfl : sb = true := by
      cases sb with
      | true => rfl
      | false => simp [briefV] at hp
    by_cases h0 : E0 = 0
    · subst h0
      cases hb : inB b 1 100000 with
      | false =>
        exact trc_b nm s G D A B gn gc dn dc b t N S _ _ w hz hgn hgl hdn hdl hG hD CG CD (Lib.hid hS) (Lib.hid hE0) (Lib.hid hSS) (Lib.hid hp) (Lib.hid (rngE_f hb)) (Lib.hid rfl) (Lib.hid rfl) (Lib.hid rfl) (Lib.hid hb) (by decide)
      | true =>
        have y := inB_iff.1 hb
        by_cases h20 : 20000 < S
        · exact trc_long nm s G D A B gn gc dn dc b t N S _ w hz hgn hgl hdn hdl hG hD CG CD (Lib.hid hS) (Lib.hid hE0) (Lib.hid hSS) (Lib.hid hp) (Lib.hid (rngE_t hb)) (Lib.hid (by rw [hSS, if_pos h20])) (Lib.hid rfl) (Lib.hid rfl) (Lib.hid hb) h20 (by decide)
        · have hF2 : (if 20000 < secT D dn then (8 : Int) else 0) = 0 := by rw [hSS, if_neg h20]
          cases hl : inB t 0 S with
          | false => exact trc_sec nm s G D A B gn gc dn dc b t N S w hz hgn hgl hdn hdl hG hD CG CD (Lib.hid hS) (Lib.hid hE0) (Lib.hid hSS) (Lib.hid hp) (Lib.hid (rngE_t hb)) (Lib.hid hF2) (Lib.hid (by rw [hSS]; exact rngE_f hl)) (Lib.hid rfl) (Lib.hid hb) h20 (Lib.hid hl) (by decide)
          | true =>
            have y2 := inB_iff.1 hl
            exact trc_good nm s G D A B gn gc dn dc b t N S w hz hgn hgl hdn hdl hG hD CG CD (Lib.hid hS) (Lib.hid hE0) (Lib.hid hSS) (Lib.hid hp) (Lib.hid (rngE_t hb)) (Lib.hid hF2) (Lib.hid (by rw [hSS]; exact rngE_t hl)) (Lib.hid rfl) (Lib.hid hb) h20 (Lib.hid hl) y.1 y.2 y2.1 y2.2
    · have h1 : firE [E0, rngE b 1 100000, (if 20000 < secT D dn then 8 else 0), rngE t 0 (secT D dn)] = E0 := by rw [firE, if_neg h0]
      exact trc_plan nm s G D A B gn gc dn dc b t N S E0 _ _ _ w hz hgn hgl hdn hdl hG hD CG CD (Lib.hid hS) (Lib.hid hE0) (Lib.hid hSS) (Lib.hid hp) (Lib.hid rfl) (Lib.hid rfl) (Lib.hid rfl) (Lib.hid h1) h0 (by simpa using h0) (by simpa using h0)
theorem nilCap {α : Type} {f : α → List Value} {k : Nat} {w : World} {A : Option Addr} {L : List α} {c : Nat} (h : SlRows f k w A L) (hn : A = none → c = 0) : A = none → L.length = 0 ∧ c = 0 := fun e => by
  rcases h with h | ⟨b, o, h, _⟩
  · exact ⟨by rw [h]; rfl, hn e⟩
  · rw [e] at h; cases h
theorem exposureTraces_any (nm : ByteArray) (s : Int) (G : List Ga) (GA : Option Addr) (gc : Nat) (D : List Le) (DA : Option Addr) (dc : Nat) (b : Int) (t : Int) (w : World) (hnm : nm.size ≤ 9223372036854775807) (hGl : G.length ≤ 9223372036854775807) (hGn : GA = none → gc = 0) (hGs : SlRows gaV 2 w GA G) (hDl : D.length ≤ 9223372036854775807) (hDn : DA = none → dc = 0) (hDs : SlRows leV 3 w DA D) :
    Calls Try.prog 12 #[.agg #[.string nm, .int .i64 s, .slice GA G.length gc, .slice DA D.length dc], .int .i64 b, .int .i64 t] w fun e w' => e = .returned (.bool true) ∧ Below w.heap.size w w' := by
  exact exposureTraces_r nm s G D GA DA G.length gc D.length dc b t w hnm (Lib.hid rfl) hGl (Lib.hid rfl) hDl (Lib.hid hGs) (Lib.hid hDs) (Lib.hid (nilCap hGs hGn)) (Lib.hid (nilCap hDs hDn))
end Go.Proofs.Ytijdphlejokijaa
