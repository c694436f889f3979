import Derived.Test.YtijdphlejokijaaEWESw
import Derived.Test.YtijdphlejokijaaEWERsw
import Derived.Test.YtijdphlejokijaaEWECpP
import Derived.Test.YtijdphlejokijaaEWEAwk
import Derived.Outline
namespace Go.Proofs.Ytijdphlejokijaa
open Go.ChangeShapes Go.WideShapes Go.ChangeAt Go.RowKit
set_option linter.unusedVariables false
set_option linter.unusedSimpArgs false
attribute [local go_sem ↓] Go.wp_at_zero Go.wp_at_succ
theorem cl_bad {P : Program} {f : FuncId} {args : Array Value} {w : World} {E : Int} {R Q : Ending → World → Prop} (h : Calls P f args w fun e w' => (¬ E = 0 ∧ R e w') ∨ (E = 0 ∧ Q e w')) (h0 : ¬ E = 0) : Calls P f args w R := h.mono fun e w' h => h.elim (fun h => h.2) (fun h => absurd h.1 h0)
theorem cl_good {P : Program} {f : FuncId} {args : Array Value} {w : World} {E : Int} {R Q : Ending → World → Prop} (h : Calls P f args w fun e w' => (¬ E = 0 ∧ R e w') ∨ (E = 0 ∧ Q e w')) (h0 : E = 0) : Calls P f args w Q := h.mono fun e w' h => h.elim (fun h => absurd h0 h.1) (fun h => h.2)
set_option maxRecDepth 100000 in
set_option maxHeartbeats 8000000 in
theorem sw_short (nm : ByteArray) (s : Int) (G : List Ga) (D : List Le) (A B : Option Addr) (gn gc dn dc : Nat)  (w : World) (hz : nm.size ≤ 9223372036854775807) (hgn : Hid (gn = G.length)) (hgl : gn ≤ 9223372036854775807) (hdn : Hid (dn = D.length)) (hdl : dn ≤ 9223372036854775807) (hG : Hid (SlRows gaV 2 w A G)) (hD : Hid (SlRows leV 3 w B D)) (CG : Hid (A = none → gn = 0 ∧ gc = 0)) (CD : Hid (B = none → dn = 0 ∧ dc = 0)) (hS : Hid (shortB nm.size dn gn = false)) :
    Calls Try.prog 10 #[.agg #[.string nm, .int .i64 s, .slice A gn gc, .slice B dn dc]] w fun e w' => e = .returned (.bool true) ∧ Below w.heap.size w w' := by
  go_enter Try.func10, Try.ntmps10
  go_wp2_with fail
  refine (awake_any _).mono ?_
  rintro e x1 ⟨rfl, hb1⟩
  have hc1 : Below w.heap.size w x1 := ((Below.refl _ _).alloc (by first | exact Nat.le_refl _ | (simp; done) | (simp; omega)) _).trans (hb1.mono (by first | exact Nat.le_refl _ | (simp; done) | (simp; omega)))
  have hB1 : Below w.heap.size w x1 := hc1
  have zu1 := hB1.size
  have PB : Hid (BlkF x1 w.heap.size (w.heap.size) [.string nm, .int .i64 s, .slice A gn gc, .slice B dn dc]) := Lib.hid ((BlkF.made (B := w.heap.size) w [.string nm, .int .i64 s, .slice A gn gc, .slice B dn dc] 40 (by first | exact Nat.le_refl _ | (simp; done) | (simp; omega))).below hb1)
  have zPB1 := PB.out.lt
  clear hb1
  obtain ⟨PB_1_0, PB_1_1, PB_1_2, PB_1_3⟩ := b4 PB.out
  have lPB_1 := PB.out.lt
  have nPB_1 : x1.heap.size ≠ w.heap.size := by omega
  have mPB_1 : w.heap.size ≠ x1.heap.size := by omega
  go_wp2_with fail
  refine (Short_is nm s G D A B gn gc dn dc false _ hz hgl hdl hS).mono ?_
  rintro e x2 ⟨rfl, hb2⟩
  have hc2 : Below x1.heap.size x1 x2 := hb2
  have hB2 : Below w.heap.size w x2 := hB1.trans (hc2.mono hB1.size)
  have zu2 := hB2.size
  replace PB := Lib.hid (PB.out.below hc2)
  clear PB_1_0 PB_1_1 PB_1_2 PB_1_3 lPB_1 nPB_1 mPB_1
  clear hb2 hB1 zu1 hc1
  obtain ⟨PB_2_0, PB_2_1, PB_2_2, PB_2_3⟩ := b4 PB.out
  have lPB_2 := PB.out.lt
  have nPB_2 : x2.heap.size ≠ w.heap.size := by omega
  have mPB_2 : w.heap.size ≠ x2.heap.size := by omega
  go_wp2
  go_ret
  exact ⟨rfl, hB2⟩
set_option maxRecDepth 100000 in
set_option maxHeartbeats 8000000 in
theorem sw_plan (nm : ByteArray) (s : Int) (G : List Ga) (D : List Le) (A B : Option Addr) (gn gc dn dc : Nat) (N : Nat) (E0 : Int) (w : World) (hz : nm.size ≤ 9223372036854775807) (hgn : Hid (gn = G.length)) (hgl : gn ≤ 9223372036854775807) (hdn : Hid (dn = D.length)) (hdl : dn ≤ 9223372036854775807) (hG : Hid (SlRows gaV 2 w A G)) (hD : Hid (SlRows leV 3 w B D)) (CG : Hid (A = none → gn = 0 ∧ gc = 0)) (CD : Hid (B = none → dn = 0 ∧ dc = 0)) (hS : Hid (shortB nm.size dn gn = true)) (hE0 : Hid (plnP nm s G D = (N, E0))) (hne : ¬ E0 = 0) (h1 : (E0 != 0) = true) (h2 : (E0 == 0) = false) :
    Calls Try.prog 10 #[.agg #[.string nm, .int .i64 s, .slice A gn gc, .slice B dn dc]] w fun e w' => e = .returned (.bool true) ∧ Below w.heap.size w w' := by
  have hsb := shortB_le hS.out
  have hz6 : nm.size ≤ 1000000 := by omega
  have hg6 : gn ≤ 1000000 := by omega
  have hd6 : dn ≤ 1000000 := by omega
  go_enter Try.func10, Try.ntmps10
  go_wp2_with fail
  refine (awake_any _).mono ?_
  rintro e x1 ⟨rfl, hb1⟩
  have hc1 : Below w.heap.size w x1 := ((Below.refl _ _).alloc (by first | exact Nat.le_refl _ | (simp; done) | (simp; omega)) _).trans (hb1.mono (by first | exact Nat.le_refl _ | (simp; done) | (simp; omega)))
  have hB1 : Below w.heap.size w x1 := hc1
  have zu1 := hB1.size
  have PB : Hid (BlkF x1 w.heap.size (w.heap.size) [.string nm, .int .i64 s, .slice A gn gc, .slice B dn dc]) := Lib.hid ((BlkF.made (B := w.heap.size) w [.string nm, .int .i64 s, .slice A gn gc, .slice B dn dc] 40 (by first | exact Nat.le_refl _ | (simp; done) | (simp; omega))).below hb1)
  have zPB1 := PB.out.lt
  clear hb1
  obtain ⟨PB_1_0, PB_1_1, PB_1_2, PB_1_3⟩ := b4 PB.out
  have lPB_1 := PB.out.lt
  have nPB_1 : x1.heap.size ≠ w.heap.size := by omega
  have mPB_1 : w.heap.size ≠ x1.heap.size := by omega
  go_wp2_with fail
  refine (Short_is nm s G D A B gn gc dn dc true _ hz hgl hdl hS).mono ?_
  rintro e x2 ⟨rfl, hb2⟩
  have hc2 : Below x1.heap.size x1 x2 := hb2
  have hB2 : Below w.heap.size w x2 := hB1.trans (hc2.mono hB1.size)
  have zu2 := hB2.size
  replace PB := Lib.hid (PB.out.below hc2)
  clear PB_1_0 PB_1_1 PB_1_2 PB_1_3 lPB_1 nPB_1 mPB_1
  clear hb2 hB1 zu1 hc1
  obtain ⟨PB_2_0, PB_2_1, PB_2_2, PB_2_3⟩ := b4 PB.out
  have lPB_2 := PB.out.lt
  have nPB_2 : x2.heap.size ≠ w.heap.size := by omega
  have mPB_2 : w.heap.size ≠ x2.heap.size := by omega
  go_wp2_with fail
  refine (copyP_is nm s G D A B gn gc dn dc _ hgn hdn hg6 hd6 (Lib.hid (hG.out.below (by (repeat (first | (with_reducible refine Below.drew ?_) | (with_reducible refine below_drewN ?_ _) | (with_reducible refine Below.alloc ?_ (by first | omega | (simp; done) | (simp; omega) | (simp at *; omega)) _) | (with_reducible refine Below.setCell ?_ (by first | omega | (simp; done) | (simp; omega) | (simp at *; omega)) _) | (with_reducible exact Below.refl _ _) | (with_reducible assumption) | (with_reducible refine Below.trans ?_ (Below.mono (by assumption) (by first | omega | (simp; done) | (simp; omega) | (simp at *; omega))))))))) (Lib.hid (hD.out.below (by (repeat (first | (with_reducible refine Below.drew ?_) | (with_reducible refine below_drewN ?_ _) | (with_reducible refine Below.alloc ?_ (by first | omega | (simp; done) | (simp; omega) | (simp at *; omega)) _) | (with_reducible refine Below.setCell ?_ (by first | omega | (simp; done) | (simp; omega) | (simp at *; omega)) _) | (with_reducible exact Below.refl _ _) | (with_reducible assumption) | (with_reducible refine Below.trans ?_ (Below.mono (by assumption) (by first | omega | (simp; done) | (simp; omega) | (simp at *; omega))))))))) CG CD).mono ?_
  rintro e x3 ⟨A1, ca1, B1, cb1, rfl, hsg, hsd, hna, hnb, hb3⟩
  have hc3 : Below x2.heap.size x2 x3 := hb3
  have hB3 : Below w.heap.size w x3 := hB2.trans (hc3.mono hB2.size)
  have zu3 := hB3.size
  replace PB := Lib.hid (PB.out.below hc3)
  have HG1 := Lib.hid hsg
  have HD1 := Lib.hid hsd
  clear hsg hsd hna hnb
  clear PB_2_0 PB_2_1 PB_2_2 PB_2_3 lPB_2 nPB_2 mPB_2
  clear hb3 hB2 zu2 hc2
  obtain ⟨PB_3_0, PB_3_1, PB_3_2, PB_3_3⟩ := b4 PB.out
  have lPB_3 := PB.out.lt
  have nPB_3 : x3.heap.size ≠ w.heap.size := by omega
  have mPB_3 : w.heap.size ≠ x3.heap.size := by omega
  go_wp2_with fail
  refine (cl_bad (Switches_any nm s G D A1 B1 gn ca1 dn cb1 N E0 _ hz hgn hgl hdn hdl HG1 HD1 hE0) hne).mono ?_
  rintro e x4 ⟨rfl, hb4⟩
  have hc4 : Below x3.heap.size x3 x4 := hb4
  have hB4 : Below w.heap.size w x4 := hB3.trans (hc4.mono hB3.size)
  have zu4 := hB4.size
  replace HG1 := Lib.hid (HG1.out.below hc4)
  replace HD1 := Lib.hid (HD1.out.below hc4)
  replace PB := Lib.hid (PB.out.below hc4)
  clear PB_3_0 PB_3_1 PB_3_2 PB_3_3 lPB_3 nPB_3 mPB_3
  clear hb4 hB3 zu3 hc3
  obtain ⟨PB_4_0, PB_4_1, PB_4_2, PB_4_3⟩ := b4 PB.out
  have lPB_4 := PB.out.lt
  have nPB_4 : x4.heap.size ≠ w.heap.size := by omega
  have mPB_4 : w.heap.size ≠ x4.heap.size := by omega
  clear HG1
  clear HD1
  go_wp2_with fail
  refine (refErr_any nm s G D A B gn gc dn dc N E0 _ hz6 hgn hgl hdn hdl (Lib.hid (hG.out.below (by (repeat (first | (with_reducible refine Below.drew ?_) | (with_reducible refine below_drewN ?_ _) | (with_reducible refine Below.alloc ?_ (by first | omega | (simp; done) | (simp; omega) | (simp at *; omega)) _) | (with_reducible refine Below.setCell ?_ (by first | omega | (simp; done) | (simp; omega) | (simp at *; omega)) _) | (with_reducible exact Below.refl _ _) | (with_reducible assumption) | (with_reducible refine Below.trans ?_ (Below.mono (by assumption) (by first | omega | (simp; done) | (simp; omega) | (simp at *; omega))))))))) (Lib.hid (hD.out.below (by (repeat (first | (with_reducible refine Below.drew ?_) | (with_reducible refine below_drewN ?_ _) | (with_reducible refine Below.alloc ?_ (by first | omega | (simp; done) | (simp; omega) | (simp at *; omega)) _) | (with_reducible refine Below.setCell ?_ (by first | omega | (simp; done) | (simp; omega) | (simp at *; omega)) _) | (with_reducible exact Below.refl _ _) | (with_reducible assumption) | (with_reducible refine Below.trans ?_ (Below.mono (by assumption) (by first | omega | (simp; done) | (simp; omega) | (simp at *; omega))))))))) hE0).mono ?_
  rintro e x5 ⟨rfl, hb5⟩
  have hc5 : Below x4.heap.size x4 x5 := hb5
  have hB5 : Below w.heap.size w x5 := hB4.trans (hc5.mono hB4.size)
  have zu5 := hB5.size
  replace PB := Lib.hid (PB.out.below hc5)
  clear PB_4_0 PB_4_1 PB_4_2 PB_4_3 lPB_4 nPB_4 mPB_4
  clear hb5 hB4 zu4 hc4
  obtain ⟨PB_5_0, PB_5_1, PB_5_2, PB_5_3⟩ := b4 PB.out
  have lPB_5 := PB.out.lt
  have nPB_5 : x5.heap.size ≠ w.heap.size := by omega
  have mPB_5 : w.heap.size ≠ x5.heap.size := by omega
  go_wp2
  go_ret
  exact ⟨rfl, hB5⟩
set_option maxRecDepth 100000 in
set_option maxHeartbeats 8000000 in
theorem sw_good (nm : ByteArray) (s : Int) (G : List Ga) (D : List Le) (A B : Option Addr) (gn gc dn dc : Nat) (N : Nat) (w : World) (hz : nm.size ≤ 9223372036854775807) (hgn : Hid (gn = G.length)) (hgl : gn ≤ 9223372036854775807) (hdn : Hid (dn = D.length)) (hdl : dn ≤ 9223372036854775807) (hG : Hid (SlRows gaV 2 w A G)) (hD : Hid (SlRows leV 3 w B D)) (CG : Hid (A = none → gn = 0 ∧ gc = 0)) (CD : Hid (B = none → dn = 0 ∧ dc = 0)) (hS : Hid (shortB nm.size dn gn = true)) (hE0 : Hid (plnP nm s G D = (N, 0))) :
    Calls Try.prog 10 #[.agg #[.string nm, .int .i64 s, .slice A gn gc, .slice B dn dc]] w fun e w' => e = .returned (.bool true) ∧ Below w.heap.size w w' := by
  have hsb := shortB_le hS.out
  have hz6 : nm.size ≤ 1000000 := by omega
  have hg6 : gn ≤ 1000000 := by omega
  have hd6 : dn ≤ 1000000 := by omega
  have hok := Lib.hid (pln_ok hE0.out)
  obtain ⟨L, hL⟩ : ∃ z, Hid ((swSt (legC s G D) (List.range dn)).1 = z) := ⟨_, Lib.hid rfl⟩
  obtain ⟨n9, hn9⟩ : ∃ z, Hid (L.length = z) := ⟨_, Lib.hid rfl⟩
  have hn60 : n9 ≤ 60 := by
    have h := swSt_len (legC s G D) _ (List.range dn) rfl
    rw [hL.out, hn9.out, List.length_range] at h
    have := hok.out.d6; have := hdn.out; omega
  go_enter Try.func10, Try.ntmps10
  go_wp2_with fail
  refine (awake_any _).mono ?_
  rintro e x1 ⟨rfl, hb1⟩
  have hc1 : Below w.heap.size w x1 := ((Below.refl _ _).alloc (by first | exact Nat.le_refl _ | (simp; done) | (simp; omega)) _).trans (hb1.mono (by first | exact Nat.le_refl _ | (simp; done) | (simp; omega)))
  have hB1 : Below w.heap.size w x1 := hc1
  have zu1 := hB1.size
  have PB : Hid (BlkF x1 w.heap.size (w.heap.size) [.string nm, .int .i64 s, .slice A gn gc, .slice B dn dc]) := Lib.hid ((BlkF.made (B := w.heap.size) w [.string nm, .int .i64 s, .slice A gn gc, .slice B dn dc] 40 (by first | exact Nat.le_refl _ | (simp; done) | (simp; omega))).below hb1)
  have zPB1 := PB.out.lt
  clear hb1
  obtain ⟨PB_1_0, PB_1_1, PB_1_2, PB_1_3⟩ := b4 PB.out
  have lPB_1 := PB.out.lt
  have nPB_1 : x1.heap.size ≠ w.heap.size := by omega
  have mPB_1 : w.heap.size ≠ x1.heap.size := by omega
  go_wp2_with fail
  refine (Short_is nm s G D A B gn gc dn dc true _ hz hgl hdl hS).mono ?_
  rintro e x2 ⟨rfl, hb2⟩
  have hc2 : Below x1.heap.size x1 x2 := hb2
  have hB2 : Below w.heap.size w x2 := hB1.trans (hc2.mono hB1.size)
  have zu2 := hB2.size
  replace PB := Lib.hid (PB.out.below hc2)
  clear PB_1_0 PB_1_1 PB_1_2 PB_1_3 lPB_1 nPB_1 mPB_1
  clear hb2 hB1 zu1 hc1
  obtain ⟨PB_2_0, PB_2_1, PB_2_2, PB_2_3⟩ := b4 PB.out
  have lPB_2 := PB.out.lt
  have nPB_2 : x2.heap.size ≠ w.heap.size := by omega
  have mPB_2 : w.heap.size ≠ x2.heap.size := by omega
  go_wp2_with fail
  refine (copyP_is nm s G D A B gn gc dn dc _ hgn hdn hg6 hd6 (Lib.hid (hG.out.below (by (repeat (first | (with_reducible refine Below.drew ?_) | (with_reducible refine below_drewN ?_ _) | (with_reducible refine Below.alloc ?_ (by first | omega | (simp; done) | (simp; omega) | (simp at *; omega)) _) | (with_reducible refine Below.setCell ?_ (by first | omega | (simp; done) | (simp; omega) | (simp at *; omega)) _) | (with_reducible exact Below.refl _ _) | (with_reducible assumption) | (with_reducible refine Below.trans ?_ (Below.mono (by assumption) (by first | omega | (simp; done) | (simp; omega) | (simp at *; omega))))))))) (Lib.hid (hD.out.below (by (repeat (first | (with_reducible refine Below.drew ?_) | (with_reducible refine below_drewN ?_ _) | (with_reducible refine Below.alloc ?_ (by first | omega | (simp; done) | (simp; omega) | (simp at *; omega)) _) | (with_reducible refine Below.setCell ?_ (by first | omega | (simp; done) | (simp; omega) | (simp at *; omega)) _) | (with_reducible exact Below.refl _ _) | (with_reducible assumption) | (with_reducible refine Below.trans ?_ (Below.mono (by assumption) (by first | omega | (simp; done) | (simp; omega) | (simp at *; omega))))))))) CG CD).mono ?_
  rintro e x3 ⟨A1, ca1, B1, cb1, rfl, hsg, hsd, hna, hnb, hb3⟩
  have hc3 : Below x2.heap.size x2 x3 := hb3
  have hB3 : Below w.heap.size w x3 := hB2.trans (hc3.mono hB2.size)
  have zu3 := hB3.size
  replace PB := Lib.hid (PB.out.below hc3)
  have HG1 := Lib.hid hsg
  have HD1 := Lib.hid hsd
  clear hsg hsd hna hnb
  clear PB_2_0 PB_2_1 PB_2_2 PB_2_3 lPB_2 nPB_2 mPB_2
  clear hb3 hB2 zu2 hc2
  obtain ⟨PB_3_0, PB_3_1, PB_3_2, PB_3_3⟩ := b4 PB.out
  have lPB_3 := PB.out.lt
  have nPB_3 : x3.heap.size ≠ w.heap.size := by omega
  have mPB_3 : w.heap.size ≠ x3.heap.size := by omega
  go_wp2_with fail
  refine (cl_good (Switches_any nm s G D A1 B1 gn ca1 dn cb1 N 0 _ hz hgn hgl hdn hdl HG1 HD1 hE0) rfl).mono ?_
  rintro e x4 ⟨C9, c9, rfl, hsC, hb4⟩
  have hc4 : Below x3.heap.size x3 x4 := hb4
  have hB4 : Below w.heap.size w x4 := hB3.trans (hc4.mono hB3.size)
  have zu4 := hB4.size
  replace HG1 := Lib.hid (HG1.out.below hc4)
  replace HD1 := Lib.hid (HD1.out.below hc4)
  replace PB := Lib.hid (PB.out.below hc4)
  rw [hL.out] at hsC
  rw [hL.out, hn9.out]
  have HC := Lib.hid hsC
  clear hsC
  clear PB_3_0 PB_3_1 PB_3_2 PB_3_3 lPB_3 nPB_3 mPB_3
  clear hb4 hB3 zu3 hc3
  obtain ⟨PB_4_0, PB_4_1, PB_4_2, PB_4_3⟩ := b4 PB.out
  have lPB_4 := PB.out.lt
  have nPB_4 : x4.heap.size ≠ w.heap.size := by omega
  have mPB_4 : w.heap.size ≠ x4.heap.size := by omega
  clear HG1
  clear HD1
  go_wp2_with fail
  refine (refErr_any nm s G D A B gn gc dn dc N 0 _ hz6 hgn hgl hdn hdl (Lib.hid (hG.out.below (by (repeat (first | (with_reducible refine Below.drew ?_) | (with_reducible refine below_drewN ?_ _) | (with_reducible refine Below.alloc ?_ (by first | omega | (simp; done) | (simp; omega) | (simp at *; omega)) _) | (with_reducible refine Below.setCell ?_ (by first | omega | (simp; done) | (simp; omega) | (simp at *; omega)) _) | (with_reducible exact Below.refl _ _) | (with_reducible assumption) | (with_reducible refine Below.trans ?_ (Below.mono (by assumption) (by first | omega | (simp; done) | (simp; omega) | (simp at *; omega))))))))) (Lib.hid (hD.out.below (by (repeat (first | (with_reducible refine Below.drew ?_) | (with_reducible refine below_drewN ?_ _) | (with_reducible refine Below.alloc ?_ (by first | omega | (simp; done) | (simp; omega) | (simp at *; omega)) _) | (with_reducible refine Below.setCell ?_ (by first | omega | (simp; done) | (simp; omega) | (simp at *; omega)) _) | (with_reducible exact Below.refl _ _) | (with_reducible assumption) | (with_reducible refine Below.trans ?_ (Below.mono (by assumption) (by first | omega | (simp; done) | (simp; omega) | (simp at *; omega))))))))) hE0).mono ?_
  rintro e x5 ⟨rfl, hb5⟩
  have hc5 : Below x4.heap.size x4 x5 := hb5
  have hB5 : Below w.heap.size w x5 := hB4.trans (hc5.mono hB4.size)
  have zu5 := hB5.size
  replace HC := Lib.hid (HC.out.below hc5)
  replace PB := Lib.hid (PB.out.below hc5)
  clear PB_4_0 PB_4_1 PB_4_2 PB_4_3 lPB_4 nPB_4 mPB_4
  clear hb5 hB4 zu4 hc4
  obtain ⟨PB_5_0, PB_5_1, PB_5_2, PB_5_3⟩ := b4 PB.out
  have lPB_5 := PB.out.lt
  have nPB_5 : x5.heap.size ≠ w.heap.size := by omega
  have mPB_5 : w.heap.size ≠ x5.heap.size := by omega
  go_wp2_with fail
  refine (refSwitches_is nm s G D A B gn gc dn dc _ hgn hdn hok (Lib.hid (hG.out.below (by (repeat (first | (with_reducible refine Below.drew ?_) | (with_reducible refine below_drewN ?_ _) | (with_reducible refine Below.alloc ?_ (by first | omega | (simp; done) | (simp; omega) | (simp at *; omega)) _) | (with_reducible refine Below.setCell ?_ (by first | omega | (simp; done) | (simp; omega) | (simp at *; omega)) _) | (with_reducible exact Below.refl _ _) | (with_reducible assumption) | (with_reducible refine Below.trans ?_ (Below.mono (by assumption) (by first | omega | (simp; done) | (simp; omega) | (simp at *; omega))))))))) (Lib.hid (hD.out.below (by (repeat (first | (with_reducible refine Below.drew ?_) | (with_reducible refine below_drewN ?_ _) | (with_reducible refine Below.alloc ?_ (by first | omega | (simp; done) | (simp; omega) | (simp at *; omega)) _) | (with_reducible refine Below.setCell ?_ (by first | omega | (simp; done) | (simp; omega) | (simp at *; omega)) _) | (with_reducible exact Below.refl _ _) | (with_reducible assumption) | (with_reducible refine Below.trans ?_ (Below.mono (by assumption) (by first | omega | (simp; done) | (simp; omega) | (simp at *; omega)))))))))).mono ?_
  rintro e x6 ⟨C8, c8, rfl, hsD, hb6⟩
  have hc6 : Below x5.heap.size x5 x6 := hb6
  have hB6 : Below w.heap.size w x6 := hB5.trans (hc6.mono hB5.size)
  have zu6 := hB6.size
  replace HC := Lib.hid (HC.out.below hc6)
  replace PB := Lib.hid (PB.out.below hc6)
  rw [hL.out] at hsD
  rw [hL.out, hn9.out]
  have HD8 := Lib.hid hsD
  clear hsD
  clear PB_5_0 PB_5_1 PB_5_2 PB_5_3 lPB_5 nPB_5 mPB_5
  clear hb6 hB5 zu5 hc5
  obtain ⟨PB_6_0, PB_6_1, PB_6_2, PB_6_3⟩ := b4 PB.out
  have lPB_6 := PB.out.lt
  have nPB_6 : x6.heap.size ≠ w.heap.size := by omega
  have mPB_6 : w.heap.size ≠ x6.heap.size := by omega
  clear PB_6_0 PB_6_1 PB_6_2 PB_6_3 lPB_6 nPB_6 mPB_6
  have HBX := Lib.hid hB6
  clear hL hB6 zu6 hc6
  go_wp2_with fail
  go_loopw [7] (fun i wr => ∃ j : Nat, j ≤ n9 ∧ i = .int .i64 j ∧ Below x6.heap.size x6 wr) (fun i _ => n9 - (intOf i).toNat)
  case atStart => exact ⟨0, by omega, rfl, Below.refl _ _⟩
  case round =>
    obtain ⟨j, hj, rfl, hB⟩ := hrel
    have zb := hB.size
    by_cases hkn : j < n9
    · have kn : (j : Int) < (n9 : Int) := by omega
      have k0 : ¬ (j : Int) < 0 := by omega
      have k1 : j < L.length := by have := hn9.out; omega
      obtain ⟨ab, ao, rfl, la, ra⟩ := HC.out.at' k1
      obtain ⟨bb, bo, rfl, lb, rb⟩ := HD8.out.at' k1
      obtain ⟨p9, hp9⟩ : ∃ z, Hid (L[j].1 = z) := ⟨_, Lib.hid rfl⟩
      obtain ⟨q9, hq9⟩ : ∃ z, Hid (L[j].2 = z) := ⟨_, Lib.hid rfl⟩
      have a0 : x6.cell? ⟨ab, ao + j * 2, none⟩ = some (.int .i64 p9) := (ra j k1 0 (by omega)).trans (by rw [← hp9.out]; rfl)
      have a1 : x6.cell? ⟨ab, ao + j * 2 + 1, none⟩ = some (.int .i64 q9) := (ra j k1 1 (by omega)).trans (by rw [← hq9.out]; rfl)
      have b0 : x6.cell? ⟨bb, bo + j * 2, none⟩ = some (.int .i64 p9) := (rb j k1 0 (by omega)).trans (by rw [← hp9.out]; rfl)
      have b1 : x6.cell? ⟨bb, bo + j * 2 + 1, none⟩ = some (.int .i64 q9) := (rb j k1 1 (by omega)).trans (by rw [← hq9.out]; rfl)
      have a0' := (hB.cell (p := ⟨ab, ao + j * 2, none⟩) la).trans a0
      have a1' := (hB.cell (p := ⟨ab, ao + j * 2 + 1, none⟩) la).trans a1
      have b0' := (hB.cell (p := ⟨bb, bo + j * 2, none⟩) lb).trans b0
      have b1' := (hB.cell (p := ⟨bb, bo + j * 2 + 1, none⟩) lb).trans b1
      have laa : ab < wr.heap.size := by omega
      have lbb : bb < wr.heap.size := by omega
      have hEq := eqP2 p9 q9 p9 q9 true (by simp)
      have HS : Hid (∀ y, Below wr.heap.size wr y → y.cell? ⟨ab, ao + j * 2, none⟩ = some (.int .i64 p9) ∧ y.cell? ⟨ab, ao + j * 2 + 1, none⟩ = some (.int .i64 q9) ∧ y.cell? ⟨bb, bo + j * 2, none⟩ = some (.int .i64 p9) ∧ y.cell? ⟨bb, bo + j * 2 + 1, none⟩ = some (.int .i64 q9)) := Lib.hid fun y hy => ⟨(hy.cell (p := ⟨ab, ao + j * 2, none⟩) laa).trans a0', (hy.cell (p := ⟨ab, ao + j * 2 + 1, none⟩) laa).trans a1', (hy.cell (p := ⟨bb, bo + j * 2, none⟩) lbb).trans b0', (hy.cell (p := ⟨bb, bo + j * 2 + 1, none⟩) lbb).trans b1'⟩
      have hwk : IntKind.i64.wrap ((j : Int) + 1) = (j : Int) + 1 := IntWalk.i64_in _ (by omega)
      clear a0 a1 b0 b1 a0' a1' b0' b1' ra rb
      go_upto_region 15 with (fail)
      refine wp_region_held_drew (S := (fun w' => w'.cell? ⟨ab, ao + j * 2, none⟩ = some (.int .i64 p9) ∧ w'.cell? ⟨ab, ao + j * 2 + 1, none⟩ = some (.int .i64 q9) ∧ w'.cell? ⟨bb, bo + j * 2, none⟩ = some (.int .i64 p9) ∧ w'.cell? ⟨bb, bo + j * 2 + 1, none⟩ = some (.int .i64 q9))) (by kernel_rfl) (HS.out _ (Below.refl _ _).drew) (fun hHeld => ?_)
      have hT0 : Below wr.heap.size wr wr.drew := (Below.refl _ _).drew
      generalize hdr : wr.drew = v0 at *
      clear hdr
      refine tkH 0 ⟨some 48, _, _, _, _, _⟩ ?_ rfl ?_ (by assumption) ?_
      rotate_left
      · (intro w hSw; (try dsimp only at hSw); go_simp; all_goals with_reducible rfl)
      try simp only [Act.put, sA, sB, sC]
      refine tkH 1 ⟨some 49, _, _, _, _, _⟩ ?_ rfl ?_ (by assumption) ?_
      rotate_left
      · (intro w hSw; (try dsimp only at hSw); go_simp; all_goals with_reducible rfl)
      try simp only [Act.put, sA, sB, sC]
      refine tkH 2 ⟨some 50, _, _, _, _, _⟩ ?_ rfl ?_ (by assumption) ?_
      rotate_left
      · (intro w hSw; (try dsimp only at hSw); go_simp; all_goals with_reducible rfl)
      try simp only [Act.put, sA, sB, sC]
      refine tkH 3 ⟨some 51, _, _, _, _, _⟩ ?_ rfl ?_ (by assumption) ?_
      rotate_left
      · (intro w hSw; (try dsimp only at hSw); go_simp; all_goals with_reducible rfl)
      try simp only [Act.put, sA, sB, sC]
      refine tkH 4 ⟨some 52, _, _, _, _, _⟩ ?_ rfl ?_ (by assumption) ?_
      rotate_left
      · (intro w hSw; (try dsimp only at hSw); go_simp; all_goals with_reducible rfl)
      try simp only [Act.put, sA, sB, sC]
      refine tkH 5 ⟨some 53, _, _, _, _, _⟩ ?_ rfl ?_ (by assumption) ?_
      rotate_left
      · (intro w hSw; (try dsimp only at hSw); go_simp; all_goals with_reducible rfl)
      try simp only [Act.put, sA, sB, sC]
      refine tkH 6 ⟨some 54, _, _, _, _, _⟩ ?_ rfl ?_ (by assumption) ?_
      rotate_left
      · (intro w hSw; (try dsimp only at hSw); go_simp; all_goals with_reducible rfl)
      try simp only [Act.put, sA, sB, sC]
      refine tkH 7 ⟨some 55, _, _, _, _, _⟩ ?_ rfl ?_ (by assumption) ?_
      rotate_left
      · (intro w hSw; (try dsimp only at hSw); go_simp; all_goals with_reducible rfl)
      try simp only [Act.put, sA, sB, sC]
      refine tkH 8 ⟨some 56, _, _, _, _, _⟩ ?_ rfl ?_ (by assumption) ?_
      rotate_left
      · (intro w hSw; (try dsimp only at hSw); go_simp; all_goals with_reducible rfl)
      try simp only [Act.put, sA, sB, sC]
      refine wpAnyH_done (by kernel_rfl) ?_ _
      have hT := hT0
      obtain ⟨z, rfl⟩ : ∃ z, z = v0 := ⟨_, rfl⟩
      clear hHeld HS
      have hBz := Lib.hid (hB.trans (hT.mono hB.size))
      clear hT
      go_wp2
      go_roundw
      case rel => exact ⟨j + 1, by omega, by go_num, hBz.out⟩
      case measure => simp [intOf]; omega
    · have kn : ¬ (j : Int) < (n9 : Int) := by omega
      go_wp2
      go_ret
      exact ⟨rfl, HBX.out.trans (hB.mono HBX.out.size)⟩
theorem exposureSwitches_r (nm : ByteArray) (s : Int) (G : List Ga) (D : List Le) (A B : Option Addr) (gn gc dn dc : Nat) (w : World) (hz : nm.size ≤ 9223372036854775807) (hgn : Hid (gn = G.length)) (hgl : gn ≤ 9223372036854775807) (hdn : Hid (dn = D.length)) (hdl : dn ≤ 9223372036854775807) (hG : Hid (SlRows gaV 2 w A G)) (hD : Hid (SlRows leV 3 w B D)) (CG : Hid (A = none → gn = 0 ∧ gc = 0)) (CD : Hid (B = none → dn = 0 ∧ dc = 0)) :
    Calls Try.prog 10 #[.agg #[.string nm, .int .i64 s, .slice A gn gc, .slice B dn dc]] w fun e w' => e = .returned (.bool true) ∧ Below w.heap.size w w' := by
  cases hS : shortB nm.size dn gn with
  | false => exact sw_short nm s G D A B gn gc dn dc w hz hgn hgl hdn hdl hG hD CG CD (Lib.hid hS)
  | true =>
    obtain ⟨N, E0, hE0⟩ : ∃ N E0, plnP nm s G D = (N, E0) := ⟨_, _, rfl⟩
    by_cases h0 : E0 = 0
    · subst h0
      exact sw_good nm s G D A B gn gc dn dc N w hz hgn hgl hdn hdl hG hD CG CD (Lib.hid hS) (Lib.hid hE0)
    · exact sw_plan nm s G D A B gn gc dn dc N E0 w hz hgn hgl hdn hdl hG hD CG CD (Lib.hid hS) (Lib.hid hE0) h0 (by simpa using h0) (by simpa using h0)
theorem nilCap {α : Type} {f : α → List Value} {k : Nat} {w : World} {A : Option Addr} {L : List α} {c : Nat} (h : SlRows f k w A L) (hn : A = none → c = 0) : A = none → L.length = 0 ∧ c = 0 := fun e => by
  rcases h with h | ⟨b, o, h, _⟩
  · exact ⟨by rw [h]; rfl, hn e⟩
  · rw [e] at h; cases h
theorem exposureSwitches_any (nm : ByteArray) (s : Int) (G : List Ga) (GA : Option Addr) (gc : Nat) (D : List Le) (DA : Option Addr) (dc : Nat) (w : World) (hnm : nm.size ≤ 9223372036854775807) (hGl : G.length ≤ 9223372036854775807) (hGn : GA = none → gc = 0) (hGs : SlRows gaV 2 w GA G) (hDl : D.length ≤ 9223372036854775807) (hDn : DA = none → dc = 0) (hDs : SlRows leV 3 w DA D) :
    Calls Try.prog 10 #[.agg #[.string nm, .int .i64 s, .slice GA G.length gc, .slice DA D.length dc]] w fun e w' => e = .returned (.bool true) ∧ Below w.heap.size w w' := by
  exact exposureSwitches_r nm s G D GA DA G.length gc D.length dc w hnm (Lib.hid rfl) hGl (Lib.hid rfl) hDl (Lib.hid hGs) (Lib.hid hDs) (Lib.hid (nilCap hGs hGn)) (Lib.hid (nilCap hDs hDn))
end Go.Proofs.Ytijdphlejokijaa
