import Derived.Test.YtijdphlejokijaaESPESpE
import Derived.Test.YtijdphlejokijaaESPEClkOf
import Derived.Test.YtijdphlejokijaaESPEBrt
import Derived.Test.YtijdphlejokijaaESPECpP
import Derived.Test.YtijdphlejokijaaESPEAwk
import Derived.Outline
namespace Go.Proofs.Ytijdphlejokijaa
open Go.ChangeShapes Go.WideShapes Go.ChangeAt Go.RowKit
set_option linter.unusedVariables false
set_option linter.unusedSimpArgs false
attribute [local go_sem ↓] Go.wp_at_zero Go.wp_at_succ
theorem cl_good {P : Program} {f : FuncId} {args : Array Value} {w : World} {E : Int} {R Q : Ending → World → Prop} (h : Calls P f args w fun e w' => (¬ E = 0 ∧ R e w') ∨ (E = 0 ∧ Q e w')) (h0 : E = 0) : Calls P f args w Q := h.mono fun e w' h => h.elim (fun h => absurd h0 h.1) (fun h => h.2)
theorem nilCap9 {α : Type} {f : α → List Value} {n m c : Nat} {w : World} {A : Option Addr} {L : List α} (h : SlRows f n w A L) (hm : m = L.length) (hn : A = none → c = 0) : A = none → m = 0 ∧ c = 0 := fun e => by
  rcases h with h | ⟨b, o, h, _⟩
  · exact ⟨by rw [hm, h]; rfl, hn e⟩
  · rw [e] at h; cases h
theorem sl_intO {w : World} {b o : Nat} {L : List Int} (h : SlRows inV 1 w (some ⟨b, o, none⟩) L) {k : Nat} {v : Int} (hk : k < L.length) (hv : L.getD k 0 = v) : w.cell? ⟨b, o + k, none⟩ = some (.int .i64 v) := by
  rcases h with h | ⟨b', o', e, _, hR⟩
  · rw [h] at hk; simp at hk
  · cases e
    have := hR k hk 0 (by omega)
    rw [show o + k * 1 + 0 = o + k by omega] at this
    rw [this, ← hv, List.getD_eq_getElem?_getD, List.getElem?_eq_getElem hk]
    rfl
theorem wB3 (n a b : Int) (r : Bool) (w : World) (h : Hid (inB n a b = r)) : Calls Try.prog 20 #[.int .i64 n, .int .i64 a, .int .i64 b] w fun e w' => e = .returned (.bool r) ∧ Below w.heap.size w w' := (bW_r n a b r w h).mono fun e w' h => ⟨h.1, by rw [← h.2]; exact Below.refl _ _⟩
set_option maxRecDepth 100000 in
set_option maxHeartbeats 8000000 in
theorem sp_short (nm : ByteArray) (s : Int) (G : List Ga) (D : List Le) (A B : Option Addr) (gn gc dn dc : Nat) (T : List Ox) (r : Ru) (AT : Option Addr) (tn tc : Nat) (a0 a1 : Int)  (w : World) (hz : nm.size ≤ 9223372036854775807) (hgn : Hid (gn = G.length)) (hgl : gn ≤ 9223372036854775807) (hdn : Hid (dn = D.length)) (hdl : dn ≤ 9223372036854775807) (hG : Hid (SlRows gaV 2 w A G)) (hD : Hid (SlRows leV 3 w B D)) (CG : Hid (A = none → gn = 0 ∧ gc = 0)) (CD : Hid (B = none → dn = 0 ∧ dc = 0)) (htn : Hid (tn = T.length)) (htl : tn ≤ 9223372036854775807) (hT : Hid (SlRows oxV 2 w AT T)) (CT : Hid (AT = none → tn = 0 ∧ tc = 0)) (hS : Hid (shortB nm.size dn gn = false)) :
    Calls Try.prog 5 #[.agg #[.string nm, .int .i64 s, .slice A gn gc, .slice B dn dc], .agg #[.slice AT tn tc, .int .i64 r.a, .int .i64 r.b, .int .i64 r.nc, .int .i64 r.dn, .int .i64 r.br, .int .i64 r.em, .int .i64 r.pa, .int .i64 r.sc], .agg #[.int .i64 a0, .int .i64 a1]] w fun e w' => e = .returned (.bool true) ∧ Below w.heap.size w w' := by
  go_enter Try.func5, Try.ntmps5
  go_wp2_with fail
  refine (awake_any _).mono ?_
  rintro e x1 ⟨rfl, hb1⟩
  have hc1 : Below w.heap.size w x1 := ((((Below.refl _ _).alloc (by first | exact Nat.le_refl _ | (simp; done) | (simp; omega)) _).alloc (by first | exact Nat.le_refl _ | (simp; done) | (simp; omega)) _).alloc (by first | exact Nat.le_refl _ | (simp; done) | (simp; omega)) _).trans (hb1.mono (by first | exact Nat.le_refl _ | (simp; done) | (simp; omega)))
  have hB1 : Below w.heap.size w x1 := hc1
  have zu1 := hB1.size
  have PB : Hid (BlkF x1 w.heap.size (w.heap.size) [.string nm, .int .i64 s, .slice A gn gc, .slice B dn dc]) := Lib.hid ((((BlkF.made (B := w.heap.size) w [.string nm, .int .i64 s, .slice A gn gc, .slice B dn dc] 40 (by first | exact Nat.le_refl _ | (simp; done) | (simp; omega))).below ((Below.refl _ _).alloc (Nat.le_refl _) _)).below ((Below.refl _ _).alloc (Nat.le_refl _) _)).below hb1)
  have zPB1 := PB.out.lt
  have RB : Hid (BlkF x1 w.heap.size (w.heap.size + 1) [.slice AT tn tc, .int .i64 r.a, .int .i64 r.b, .int .i64 r.nc, .int .i64 r.dn, .int .i64 r.br, .int .i64 r.em, .int .i64 r.pa, .int .i64 r.sc]) := Lib.hid (by have := ((BlkF.made (B := w.heap.size) (w.alloc (.cells #[.string nm, .int .i64 s, .slice A gn gc, .slice B dn dc] 40)) [.slice AT tn tc, .int .i64 r.a, .int .i64 r.b, .int .i64 r.nc, .int .i64 r.dn, .int .i64 r.br, .int .i64 r.em, .int .i64 r.pa, .int .i64 r.sc] 26 (by first | exact Nat.le_refl _ | (simp; done) | (simp; omega))).below ((Below.refl _ _).alloc (Nat.le_refl _) _)).below hb1; simpa using this)
  have zRB1 := RB.out.lt
  have TB : Hid (BlkF x1 w.heap.size (w.heap.size + 1 + 1) [.int .i64 a0, .int .i64 a1]) := Lib.hid (by have := (BlkF.made (B := w.heap.size) ((w.alloc (.cells #[.string nm, .int .i64 s, .slice A gn gc, .slice B dn dc] 40)).alloc (.cells #[.slice AT tn tc, .int .i64 r.a, .int .i64 r.b, .int .i64 r.nc, .int .i64 r.dn, .int .i64 r.br, .int .i64 r.em, .int .i64 r.pa, .int .i64 r.sc] 26)) [.int .i64 a0, .int .i64 a1] 55 (by first | exact Nat.le_refl _ | (simp; done) | (simp; omega))).below hb1; simpa using this)
  have zTB1 := TB.out.lt
  clear hb1
  obtain ⟨PB_1_0, PB_1_1, PB_1_2, PB_1_3⟩ := b4 PB.out
  have lPB_1 := PB.out.lt
  have nPB_1 : x1.heap.size ≠ w.heap.size := by omega
  have mPB_1 : w.heap.size ≠ x1.heap.size := by omega
  obtain ⟨RB_1_0, RB_1_1, RB_1_2, RB_1_3, RB_1_4, RB_1_5, RB_1_6, RB_1_7, RB_1_8⟩ := b9 RB.out
  have lRB_1 := RB.out.lt
  have nRB_1 : x1.heap.size ≠ w.heap.size + 1 := by omega
  have mRB_1 : w.heap.size + 1 ≠ x1.heap.size := by omega
  obtain ⟨TB_1_0, TB_1_1⟩ := b2 TB.out
  have lTB_1 := TB.out.lt
  have nTB_1 : x1.heap.size ≠ w.heap.size + 1 + 1 := by omega
  have mTB_1 : w.heap.size + 1 + 1 ≠ x1.heap.size := by omega
  go_wp2_with fail
  refine (Short_is nm s G D A B gn gc dn dc false _ hz hgl hdl hS).mono ?_
  rintro e x2 ⟨rfl, hb2⟩
  have hc2 : Below x1.heap.size x1 x2 := hb2
  have hB2 : Below w.heap.size w x2 := hB1.trans (hc2.mono hB1.size)
  have zu2 := hB2.size
  replace PB := Lib.hid (PB.out.below hc2)
  replace RB := Lib.hid (RB.out.below hc2)
  replace TB := Lib.hid (TB.out.below hc2)
  clear PB_1_0 PB_1_1 PB_1_2 PB_1_3 lPB_1 nPB_1 mPB_1 RB_1_0 RB_1_1 RB_1_2 RB_1_3 RB_1_4 RB_1_5 RB_1_6 RB_1_7 RB_1_8 lRB_1 nRB_1 mRB_1 TB_1_0 TB_1_1 lTB_1 nTB_1 mTB_1
  clear hb2 hB1 zu1 hc1
  obtain ⟨PB_2_0, PB_2_1, PB_2_2, PB_2_3⟩ := b4 PB.out
  have lPB_2 := PB.out.lt
  have nPB_2 : x2.heap.size ≠ w.heap.size := by omega
  have mPB_2 : w.heap.size ≠ x2.heap.size := by omega
  obtain ⟨RB_2_0, RB_2_1, RB_2_2, RB_2_3, RB_2_4, RB_2_5, RB_2_6, RB_2_7, RB_2_8⟩ := b9 RB.out
  have lRB_2 := RB.out.lt
  have nRB_2 : x2.heap.size ≠ w.heap.size + 1 := by omega
  have mRB_2 : w.heap.size + 1 ≠ x2.heap.size := by omega
  obtain ⟨TB_2_0, TB_2_1⟩ := b2 TB.out
  have lTB_2 := TB.out.lt
  have nTB_2 : x2.heap.size ≠ w.heap.size + 1 + 1 := by omega
  have mTB_2 : w.heap.size + 1 + 1 ≠ x2.heap.size := by omega
  go_wp2
  go_ret
  exact ⟨rfl, hB2⟩
set_option maxRecDepth 100000 in
set_option maxHeartbeats 8000000 in
theorem sp_few (nm : ByteArray) (s : Int) (G : List Ga) (D : List Le) (A B : Option Addr) (gn gc dn dc : Nat) (T : List Ox) (r : Ru) (AT : Option Addr) (tn tc : Nat) (a0 a1 : Int)  (w : World) (hz : nm.size ≤ 9223372036854775807) (hgn : Hid (gn = G.length)) (hgl : gn ≤ 9223372036854775807) (hdn : Hid (dn = D.length)) (hdl : dn ≤ 9223372036854775807) (hG : Hid (SlRows gaV 2 w A G)) (hD : Hid (SlRows leV 3 w B D)) (CG : Hid (A = none → gn = 0 ∧ gc = 0)) (CD : Hid (B = none → dn = 0 ∧ dc = 0)) (htn : Hid (tn = T.length)) (htl : tn ≤ 9223372036854775807) (hT : Hid (SlRows oxV 2 w AT T)) (CT : Hid (AT = none → tn = 0 ∧ tc = 0)) (hS : Hid (shortB nm.size dn gn = true)) (hF : Hid (fewB tn = false)) :
    Calls Try.prog 5 #[.agg #[.string nm, .int .i64 s, .slice A gn gc, .slice B dn dc], .agg #[.slice AT tn tc, .int .i64 r.a, .int .i64 r.b, .int .i64 r.nc, .int .i64 r.dn, .int .i64 r.br, .int .i64 r.em, .int .i64 r.pa, .int .i64 r.sc], .agg #[.int .i64 a0, .int .i64 a1]] w fun e w' => e = .returned (.bool true) ∧ Below w.heap.size w w' := by
  go_enter Try.func5, Try.ntmps5
  go_wp2_with fail
  refine (awake_any _).mono ?_
  rintro e x1 ⟨rfl, hb1⟩
  have hc1 : Below w.heap.size w x1 := ((((Below.refl _ _).alloc (by first | exact Nat.le_refl _ | (simp; done) | (simp; omega)) _).alloc (by first | exact Nat.le_refl _ | (simp; done) | (simp; omega)) _).alloc (by first | exact Nat.le_refl _ | (simp; done) | (simp; omega)) _).trans (hb1.mono (by first | exact Nat.le_refl _ | (simp; done) | (simp; omega)))
  have hB1 : Below w.heap.size w x1 := hc1
  have zu1 := hB1.size
  have PB : Hid (BlkF x1 w.heap.size (w.heap.size) [.string nm, .int .i64 s, .slice A gn gc, .slice B dn dc]) := Lib.hid ((((BlkF.made (B := w.heap.size) w [.string nm, .int .i64 s, .slice A gn gc, .slice B dn dc] 40 (by first | exact Nat.le_refl _ | (simp; done) | (simp; omega))).below ((Below.refl _ _).alloc (Nat.le_refl _) _)).below ((Below.refl _ _).alloc (Nat.le_refl _) _)).below hb1)
  have zPB1 := PB.out.lt
  have RB : Hid (BlkF x1 w.heap.size (w.heap.size + 1) [.slice AT tn tc, .int .i64 r.a, .int .i64 r.b, .int .i64 r.nc, .int .i64 r.dn, .int .i64 r.br, .int .i64 r.em, .int .i64 r.pa, .int .i64 r.sc]) := Lib.hid (by have := ((BlkF.made (B := w.heap.size) (w.alloc (.cells #[.string nm, .int .i64 s, .slice A gn gc, .slice B dn dc] 40)) [.slice AT tn tc, .int .i64 r.a, .int .i64 r.b, .int .i64 r.nc, .int .i64 r.dn, .int .i64 r.br, .int .i64 r.em, .int .i64 r.pa, .int .i64 r.sc] 26 (by first | exact Nat.le_refl _ | (simp; done) | (simp; omega))).below ((Below.refl _ _).alloc (Nat.le_refl _) _)).below hb1; simpa using this)
  have zRB1 := RB.out.lt
  have TB : Hid (BlkF x1 w.heap.size (w.heap.size + 1 + 1) [.int .i64 a0, .int .i64 a1]) := Lib.hid (by have := (BlkF.made (B := w.heap.size) ((w.alloc (.cells #[.string nm, .int .i64 s, .slice A gn gc, .slice B dn dc] 40)).alloc (.cells #[.slice AT tn tc, .int .i64 r.a, .int .i64 r.b, .int .i64 r.nc, .int .i64 r.dn, .int .i64 r.br, .int .i64 r.em, .int .i64 r.pa, .int .i64 r.sc] 26)) [.int .i64 a0, .int .i64 a1] 55 (by first | exact Nat.le_refl _ | (simp; done) | (simp; omega))).below hb1; simpa using this)
  have zTB1 := TB.out.lt
  clear hb1
  obtain ⟨PB_1_0, PB_1_1, PB_1_2, PB_1_3⟩ := b4 PB.out
  have lPB_1 := PB.out.lt
  have nPB_1 : x1.heap.size ≠ w.heap.size := by omega
  have mPB_1 : w.heap.size ≠ x1.heap.size := by omega
  obtain ⟨RB_1_0, RB_1_1, RB_1_2, RB_1_3, RB_1_4, RB_1_5, RB_1_6, RB_1_7, RB_1_8⟩ := b9 RB.out
  have lRB_1 := RB.out.lt
  have nRB_1 : x1.heap.size ≠ w.heap.size + 1 := by omega
  have mRB_1 : w.heap.size + 1 ≠ x1.heap.size := by omega
  obtain ⟨TB_1_0, TB_1_1⟩ := b2 TB.out
  have lTB_1 := TB.out.lt
  have nTB_1 : x1.heap.size ≠ w.heap.size + 1 + 1 := by omega
  have mTB_1 : w.heap.size + 1 + 1 ≠ x1.heap.size := by omega
  go_wp2_with fail
  refine (Short_is nm s G D A B gn gc dn dc true _ hz hgl hdl hS).mono ?_
  rintro e x2 ⟨rfl, hb2⟩
  have hc2 : Below x1.heap.size x1 x2 := hb2
  have hB2 : Below w.heap.size w x2 := hB1.trans (hc2.mono hB1.size)
  have zu2 := hB2.size
  replace PB := Lib.hid (PB.out.below hc2)
  replace RB := Lib.hid (RB.out.below hc2)
  replace TB := Lib.hid (TB.out.below hc2)
  clear PB_1_0 PB_1_1 PB_1_2 PB_1_3 lPB_1 nPB_1 mPB_1 RB_1_0 RB_1_1 RB_1_2 RB_1_3 RB_1_4 RB_1_5 RB_1_6 RB_1_7 RB_1_8 lRB_1 nRB_1 mRB_1 TB_1_0 TB_1_1 lTB_1 nTB_1 mTB_1
  clear hb2 hB1 zu1 hc1
  obtain ⟨PB_2_0, PB_2_1, PB_2_2, PB_2_3⟩ := b4 PB.out
  have lPB_2 := PB.out.lt
  have nPB_2 : x2.heap.size ≠ w.heap.size := by omega
  have mPB_2 : w.heap.size ≠ x2.heap.size := by omega
  obtain ⟨RB_2_0, RB_2_1, RB_2_2, RB_2_3, RB_2_4, RB_2_5, RB_2_6, RB_2_7, RB_2_8⟩ := b9 RB.out
  have lRB_2 := RB.out.lt
  have nRB_2 : x2.heap.size ≠ w.heap.size + 1 := by omega
  have mRB_2 : w.heap.size + 1 ≠ x2.heap.size := by omega
  obtain ⟨TB_2_0, TB_2_1⟩ := b2 TB.out
  have lTB_2 := TB.out.lt
  have nTB_2 : x2.heap.size ≠ w.heap.size + 1 + 1 := by omega
  have mTB_2 : w.heap.size + 1 + 1 ≠ x2.heap.size := by omega
  go_wp2_with fail
  refine (few_is r AT tn tc false _ htl hF).mono ?_
  rintro e x3 ⟨rfl, hb3⟩
  have hc3 : Below x2.heap.size x2 x3 := hb3
  have hB3 : Below w.heap.size w x3 := hB2.trans (hc3.mono hB2.size)
  have zu3 := hB3.size
  replace PB := Lib.hid (PB.out.below hc3)
  replace RB := Lib.hid (RB.out.below hc3)
  replace TB := Lib.hid (TB.out.below hc3)
  clear PB_2_0 PB_2_1 PB_2_2 PB_2_3 lPB_2 nPB_2 mPB_2 RB_2_0 RB_2_1 RB_2_2 RB_2_3 RB_2_4 RB_2_5 RB_2_6 RB_2_7 RB_2_8 lRB_2 nRB_2 mRB_2 TB_2_0 TB_2_1 lTB_2 nTB_2 mTB_2
  clear hb3 hB2 zu2 hc2
  obtain ⟨PB_3_0, PB_3_1, PB_3_2, PB_3_3⟩ := b4 PB.out
  have lPB_3 := PB.out.lt
  have nPB_3 : x3.heap.size ≠ w.heap.size := by omega
  have mPB_3 : w.heap.size ≠ x3.heap.size := by omega
  obtain ⟨RB_3_0, RB_3_1, RB_3_2, RB_3_3, RB_3_4, RB_3_5, RB_3_6, RB_3_7, RB_3_8⟩ := b9 RB.out
  have lRB_3 := RB.out.lt
  have nRB_3 : x3.heap.size ≠ w.heap.size + 1 := by omega
  have mRB_3 : w.heap.size + 1 ≠ x3.heap.size := by omega
  obtain ⟨TB_3_0, TB_3_1⟩ := b2 TB.out
  have lTB_3 := TB.out.lt
  have nTB_3 : x3.heap.size ≠ w.heap.size + 1 + 1 := by omega
  have mTB_3 : w.heap.size + 1 + 1 ≠ x3.heap.size := by omega
  go_wp2
  go_ret
  exact ⟨rfl, hB3⟩
set_option maxRecDepth 100000 in
set_option maxHeartbeats 8000000 in
theorem sp_err (nm : ByteArray) (s : Int) (G : List Ga) (D : List Le) (A B : Option Addr) (gn gc dn dc : Nat) (T : List Ox) (r : Ru) (AT : Option Addr) (tn tc : Nat) (a0 a1 : Int) (N : Nat) (E0 E1 E : Int) (w : World) (hz : nm.size ≤ 9223372036854775807) (hgn : Hid (gn = G.length)) (hgl : gn ≤ 9223372036854775807) (hdn : Hid (dn = D.length)) (hdl : dn ≤ 9223372036854775807) (hG : Hid (SlRows gaV 2 w A G)) (hD : Hid (SlRows leV 3 w B D)) (CG : Hid (A = none → gn = 0 ∧ gc = 0)) (CD : Hid (B = none → dn = 0 ∧ dc = 0)) (htn : Hid (tn = T.length)) (htl : tn ≤ 9223372036854775807) (hT : Hid (SlRows oxV 2 w AT T)) (CT : Hid (AT = none → tn = 0 ∧ tc = 0)) (hS : Hid (shortB nm.size dn gn = true)) (hF : Hid (fewB tn = true)) (hE0 : Hid (plnP nm s G D = (N, E0))) (hE1 : Hid (ruE T r = E1)) (hE : Hid (firE [E0, E1] = E)) (h1 : (E != 0) = true) :
    Calls Try.prog 5 #[.agg #[.string nm, .int .i64 s, .slice A gn gc, .slice B dn dc], .agg #[.slice AT tn tc, .int .i64 r.a, .int .i64 r.b, .int .i64 r.nc, .int .i64 r.dn, .int .i64 r.br, .int .i64 r.em, .int .i64 r.pa, .int .i64 r.sc], .agg #[.int .i64 a0, .int .i64 a1]] w fun e w' => e = .returned (.bool true) ∧ Below w.heap.size w w' := by
  have hsb := shortB_le hS.out
  have hz6 : nm.size ≤ 1000000 := by omega
  have hg6 : gn ≤ 1000000 := by omega
  have hd6 : dn ≤ 1000000 := by omega
  have ht22 : tn ≤ 22 := fewB_le hF.out
  have ht6 : tn ≤ 1000000 := by omega
  have wd1 : IntKind.i64.wrap ((dn : Int) - 1) = (dn : Int) - 1 := IntWalk.i64_in _ (by omega)
  go_enter Try.func5, Try.ntmps5
  go_wp2_with fail
  refine (awake_any _).mono ?_
  rintro e x1 ⟨rfl, hb1⟩
  have hc1 : Below w.heap.size w x1 := ((((Below.refl _ _).alloc (by first | exact Nat.le_refl _ | (simp; done) | (simp; omega)) _).alloc (by first | exact Nat.le_refl _ | (simp; done) | (simp; omega)) _).alloc (by first | exact Nat.le_refl _ | (simp; done) | (simp; omega)) _).trans (hb1.mono (by first | exact Nat.le_refl _ | (simp; done) | (simp; omega)))
  have hB1 : Below w.heap.size w x1 := hc1
  have zu1 := hB1.size
  have PB : Hid (BlkF x1 w.heap.size (w.heap.size) [.string nm, .int .i64 s, .slice A gn gc, .slice B dn dc]) := Lib.hid ((((BlkF.made (B := w.heap.size) w [.string nm, .int .i64 s, .slice A gn gc, .slice B dn dc] 40 (by first | exact Nat.le_refl _ | (simp; done) | (simp; omega))).below ((Below.refl _ _).alloc (Nat.le_refl _) _)).below ((Below.refl _ _).alloc (Nat.le_refl _) _)).below hb1)
  have zPB1 := PB.out.lt
  have RB : Hid (BlkF x1 w.heap.size (w.heap.size + 1) [.slice AT tn tc, .int .i64 r.a, .int .i64 r.b, .int .i64 r.nc, .int .i64 r.dn, .int .i64 r.br, .int .i64 r.em, .int .i64 r.pa, .int .i64 r.sc]) := Lib.hid (by have := ((BlkF.made (B := w.heap.size) (w.alloc (.cells #[.string nm, .int .i64 s, .slice A gn gc, .slice B dn dc] 40)) [.slice AT tn tc, .int .i64 r.a, .int .i64 r.b, .int .i64 r.nc, .int .i64 r.dn, .int .i64 r.br, .int .i64 r.em, .int .i64 r.pa, .int .i64 r.sc] 26 (by first | exact Nat.le_refl _ | (simp; done) | (simp; omega))).below ((Below.refl _ _).alloc (Nat.le_refl _) _)).below hb1; simpa using this)
  have zRB1 := RB.out.lt
  have TB : Hid (BlkF x1 w.heap.size (w.heap.size + 1 + 1) [.int .i64 a0, .int .i64 a1]) := Lib.hid (by have := (BlkF.made (B := w.heap.size) ((w.alloc (.cells #[.string nm, .int .i64 s, .slice A gn gc, .slice B dn dc] 40)).alloc (.cells #[.slice AT tn tc, .int .i64 r.a, .int .i64 r.b, .int .i64 r.nc, .int .i64 r.dn, .int .i64 r.br, .int .i64 r.em, .int .i64 r.pa, .int .i64 r.sc] 26)) [.int .i64 a0, .int .i64 a1] 55 (by first | exact Nat.le_refl _ | (simp; done) | (simp; omega))).below hb1; simpa using this)
  have zTB1 := TB.out.lt
  clear hb1
  obtain ⟨PB_1_0, PB_1_1, PB_1_2, PB_1_3⟩ := b4 PB.out
  have lPB_1 := PB.out.lt
  have nPB_1 : x1.heap.size ≠ w.heap.size := by omega
  have mPB_1 : w.heap.size ≠ x1.heap.size := by omega
  obtain ⟨RB_1_0, RB_1_1, RB_1_2, RB_1_3, RB_1_4, RB_1_5, RB_1_6, RB_1_7, RB_1_8⟩ := b9 RB.out
  have lRB_1 := RB.out.lt
  have nRB_1 : x1.heap.size ≠ w.heap.size + 1 := by omega
  have mRB_1 : w.heap.size + 1 ≠ x1.heap.size := by omega
  obtain ⟨TB_1_0, TB_1_1⟩ := b2 TB.out
  have lTB_1 := TB.out.lt
  have nTB_1 : x1.heap.size ≠ w.heap.size + 1 + 1 := by omega
  have mTB_1 : w.heap.size + 1 + 1 ≠ x1.heap.size := by omega
  go_wp2_with fail
  refine (Short_is nm s G D A B gn gc dn dc true _ hz hgl hdl hS).mono ?_
  rintro e x2 ⟨rfl, hb2⟩
  have hc2 : Below x1.heap.size x1 x2 := hb2
  have hB2 : Below w.heap.size w x2 := hB1.trans (hc2.mono hB1.size)
  have zu2 := hB2.size
  replace PB := Lib.hid (PB.out.below hc2)
  replace RB := Lib.hid (RB.out.below hc2)
  replace TB := Lib.hid (TB.out.below hc2)
  clear PB_1_0 PB_1_1 PB_1_2 PB_1_3 lPB_1 nPB_1 mPB_1 RB_1_0 RB_1_1 RB_1_2 RB_1_3 RB_1_4 RB_1_5 RB_1_6 RB_1_7 RB_1_8 lRB_1 nRB_1 mRB_1 TB_1_0 TB_1_1 lTB_1 nTB_1 mTB_1
  clear hb2 hB1 zu1 hc1
  obtain ⟨PB_2_0, PB_2_1, PB_2_2, PB_2_3⟩ := b4 PB.out
  have lPB_2 := PB.out.lt
  have nPB_2 : x2.heap.size ≠ w.heap.size := by omega
  have mPB_2 : w.heap.size ≠ x2.heap.size := by omega
  obtain ⟨RB_2_0, RB_2_1, RB_2_2, RB_2_3, RB_2_4, RB_2_5, RB_2_6, RB_2_7, RB_2_8⟩ := b9 RB.out
  have lRB_2 := RB.out.lt
  have nRB_2 : x2.heap.size ≠ w.heap.size + 1 := by omega
  have mRB_2 : w.heap.size + 1 ≠ x2.heap.size := by omega
  obtain ⟨TB_2_0, TB_2_1⟩ := b2 TB.out
  have lTB_2 := TB.out.lt
  have nTB_2 : x2.heap.size ≠ w.heap.size + 1 + 1 := by omega
  have mTB_2 : w.heap.size + 1 + 1 ≠ x2.heap.size := by omega
  go_wp2_with fail
  refine (few_is r AT tn tc true _ htl hF).mono ?_
  rintro e x3 ⟨rfl, hb3⟩
  have hc3 : Below x2.heap.size x2 x3 := hb3
  have hB3 : Below w.heap.size w x3 := hB2.trans (hc3.mono hB2.size)
  have zu3 := hB3.size
  replace PB := Lib.hid (PB.out.below hc3)
  replace RB := Lib.hid (RB.out.below hc3)
  replace TB := Lib.hid (TB.out.below hc3)
  clear PB_2_0 PB_2_1 PB_2_2 PB_2_3 lPB_2 nPB_2 mPB_2 RB_2_0 RB_2_1 RB_2_2 RB_2_3 RB_2_4 RB_2_5 RB_2_6 RB_2_7 RB_2_8 lRB_2 nRB_2 mRB_2 TB_2_0 TB_2_1 lTB_2 nTB_2 mTB_2
  clear hb3 hB2 zu2 hc2
  obtain ⟨PB_3_0, PB_3_1, PB_3_2, PB_3_3⟩ := b4 PB.out
  have lPB_3 := PB.out.lt
  have nPB_3 : x3.heap.size ≠ w.heap.size := by omega
  have mPB_3 : w.heap.size ≠ x3.heap.size := by omega
  obtain ⟨RB_3_0, RB_3_1, RB_3_2, RB_3_3, RB_3_4, RB_3_5, RB_3_6, RB_3_7, RB_3_8⟩ := b9 RB.out
  have lRB_3 := RB.out.lt
  have nRB_3 : x3.heap.size ≠ w.heap.size + 1 := by omega
  have mRB_3 : w.heap.size + 1 ≠ x3.heap.size := by omega
  obtain ⟨TB_3_0, TB_3_1⟩ := b2 TB.out
  have lTB_3 := TB.out.lt
  have nTB_3 : x3.heap.size ≠ w.heap.size + 1 + 1 := by omega
  have mTB_3 : w.heap.size + 1 + 1 ≠ x3.heap.size := by omega
  go_wp2_with fail
  refine (refBoth_any nm s G D A B gn gc dn dc T r AT tn tc N E0 E1 E _ hz6 hgn hgl hdn hdl (Lib.hid (hG.out.below (by (repeat (first | (with_reducible refine Below.drew ?_) | (with_reducible refine below_drewN ?_ _) | (with_reducible refine Below.alloc ?_ (by first | omega | (simp; done) | (simp; omega) | (simp at *; omega)) _) | (with_reducible refine Below.setCell ?_ (by first | omega | (simp; done) | (simp; omega) | (simp at *; omega)) _) | (with_reducible exact Below.refl _ _) | (with_reducible assumption) | (with_reducible refine Below.trans ?_ (Below.mono (by assumption) (by first | omega | (simp; done) | (simp; omega) | (simp at *; omega))))))))) (Lib.hid (hD.out.below (by (repeat (first | (with_reducible refine Below.drew ?_) | (with_reducible refine below_drewN ?_ _) | (with_reducible refine Below.alloc ?_ (by first | omega | (simp; done) | (simp; omega) | (simp at *; omega)) _) | (with_reducible refine Below.setCell ?_ (by first | omega | (simp; done) | (simp; omega) | (simp at *; omega)) _) | (with_reducible exact Below.refl _ _) | (with_reducible assumption) | (with_reducible refine Below.trans ?_ (Below.mono (by assumption) (by first | omega | (simp; done) | (simp; omega) | (simp at *; omega))))))))) hE0 htn htl (Lib.hid (hT.out.below (by (repeat (first | (with_reducible refine Below.drew ?_) | (with_reducible refine below_drewN ?_ _) | (with_reducible refine Below.alloc ?_ (by first | omega | (simp; done) | (simp; omega) | (simp at *; omega)) _) | (with_reducible refine Below.setCell ?_ (by first | omega | (simp; done) | (simp; omega) | (simp at *; omega)) _) | (with_reducible exact Below.refl _ _) | (with_reducible assumption) | (with_reducible refine Below.trans ?_ (Below.mono (by assumption) (by first | omega | (simp; done) | (simp; omega) | (simp at *; omega))))))))) hE1 hE).mono ?_
  rintro e x4 ⟨rfl, hb4⟩
  have hc4 : Below x3.heap.size x3 x4 := hb4
  have hB4 : Below w.heap.size w x4 := hB3.trans (hc4.mono hB3.size)
  have zu4 := hB4.size
  replace PB := Lib.hid (PB.out.below hc4)
  replace RB := Lib.hid (RB.out.below hc4)
  replace TB := Lib.hid (TB.out.below hc4)
  clear PB_3_0 PB_3_1 PB_3_2 PB_3_3 lPB_3 nPB_3 mPB_3 RB_3_0 RB_3_1 RB_3_2 RB_3_3 RB_3_4 RB_3_5 RB_3_6 RB_3_7 RB_3_8 lRB_3 nRB_3 mRB_3 TB_3_0 TB_3_1 lTB_3 nTB_3 mTB_3
  clear hb4 hB3 zu3 hc3
  obtain ⟨PB_4_0, PB_4_1, PB_4_2, PB_4_3⟩ := b4 PB.out
  have lPB_4 := PB.out.lt
  have nPB_4 : x4.heap.size ≠ w.heap.size := by omega
  have mPB_4 : w.heap.size ≠ x4.heap.size := by omega
  obtain ⟨RB_4_0, RB_4_1, RB_4_2, RB_4_3, RB_4_4, RB_4_5, RB_4_6, RB_4_7, RB_4_8⟩ := b9 RB.out
  have lRB_4 := RB.out.lt
  have nRB_4 : x4.heap.size ≠ w.heap.size + 1 := by omega
  have mRB_4 : w.heap.size + 1 ≠ x4.heap.size := by omega
  obtain ⟨TB_4_0, TB_4_1⟩ := b2 TB.out
  have lTB_4 := TB.out.lt
  have nTB_4 : x4.heap.size ≠ w.heap.size + 1 + 1 := by omega
  have mTB_4 : w.heap.size + 1 + 1 ≠ x4.heap.size := by omega
  go_wp2
  go_ret
  exact ⟨rfl, hB4⟩
set_option maxRecDepth 100000 in
set_option maxHeartbeats 8000000 in
theorem sp_leg (nm : ByteArray) (s : Int) (G : List Ga) (D : List Le) (A B : Option Addr) (gn gc dn dc : Nat) (T : List Ox) (r : Ru) (AT : Option Addr) (tn tc : Nat) (a0 a1 : Int) (N : Nat) (w : World) (hz : nm.size ≤ 9223372036854775807) (hgn : Hid (gn = G.length)) (hgl : gn ≤ 9223372036854775807) (hdn : Hid (dn = D.length)) (hdl : dn ≤ 9223372036854775807) (hG : Hid (SlRows gaV 2 w A G)) (hD : Hid (SlRows leV 3 w B D)) (CG : Hid (A = none → gn = 0 ∧ gc = 0)) (CD : Hid (B = none → dn = 0 ∧ dc = 0)) (htn : Hid (tn = T.length)) (htl : tn ≤ 9223372036854775807) (hT : Hid (SlRows oxV 2 w AT T)) (CT : Hid (AT = none → tn = 0 ∧ tc = 0)) (hS : Hid (shortB nm.size dn gn = true)) (hF : Hid (fewB tn = true)) (hE0 : Hid (plnP nm s G D = (N, 0))) (hE1 : Hid (ruE T r = 0)) (hE : Hid (firE [0, 0] = 0)) (hi0 : Hid (inB a0 0 ((dn : Int) - 1) = false)) :
    Calls Try.prog 5 #[.agg #[.string nm, .int .i64 s, .slice A gn gc, .slice B dn dc], .agg #[.slice AT tn tc, .int .i64 r.a, .int .i64 r.b, .int .i64 r.nc, .int .i64 r.dn, .int .i64 r.br, .int .i64 r.em, .int .i64 r.pa, .int .i64 r.sc], .agg #[.int .i64 a0, .int .i64 a1]] w fun e w' => e = .returned (.bool true) ∧ Below w.heap.size w w' := by
  have hsb := shortB_le hS.out
  have hz6 : nm.size ≤ 1000000 := by omega
  have hg6 : gn ≤ 1000000 := by omega
  have hd6 : dn ≤ 1000000 := by omega
  have ht22 : tn ≤ 22 := fewB_le hF.out
  have ht6 : tn ≤ 1000000 := by omega
  have wd1 : IntKind.i64.wrap ((dn : Int) - 1) = (dn : Int) - 1 := IntWalk.i64_in _ (by omega)
  go_enter Try.func5, Try.ntmps5
  go_wp2_with fail
  refine (awake_any _).mono ?_
  rintro e x1 ⟨rfl, hb1⟩
  have hc1 : Below w.heap.size w x1 := ((((Below.refl _ _).alloc (by first | exact Nat.le_refl _ | (simp; done) | (simp; omega)) _).alloc (by first | exact Nat.le_refl _ | (simp; done) | (simp; omega)) _).alloc (by first | exact Nat.le_refl _ | (simp; done) | (simp; omega)) _).trans (hb1.mono (by first | exact Nat.le_refl _ | (simp; done) | (simp; omega)))
  have hB1 : Below w.heap.size w x1 := hc1
  have zu1 := hB1.size
  have PB : Hid (BlkF x1 w.heap.size (w.heap.size) [.string nm, .int .i64 s, .slice A gn gc, .slice B dn dc]) := Lib.hid ((((BlkF.made (B := w.heap.size) w [.string nm, .int .i64 s, .slice A gn gc, .slice B dn dc] 40 (by first | exact Nat.le_refl _ | (simp; done) | (simp; omega))).below ((Below.refl _ _).alloc (Nat.le_refl _) _)).below ((Below.refl _ _).alloc (Nat.le_refl _) _)).below hb1)
  have zPB1 := PB.out.lt
  have RB : Hid (BlkF x1 w.heap.size (w.heap.size + 1) [.slice AT tn tc, .int .i64 r.a, .int .i64 r.b, .int .i64 r.nc, .int .i64 r.dn, .int .i64 r.br, .int .i64 r.em, .int .i64 r.pa, .int .i64 r.sc]) := Lib.hid (by have := ((BlkF.made (B := w.heap.size) (w.alloc (.cells #[.string nm, .int .i64 s, .slice A gn gc, .slice B dn dc] 40)) [.slice AT tn tc, .int .i64 r.a, .int .i64 r.b, .int .i64 r.nc, .int .i64 r.dn, .int .i64 r.br, .int .i64 r.em, .int .i64 r.pa, .int .i64 r.sc] 26 (by first | exact Nat.le_refl _ | (simp; done) | (simp; omega))).below ((Below.refl _ _).alloc (Nat.le_refl _) _)).below hb1; simpa using this)
  have zRB1 := RB.out.lt
  have TB : Hid (BlkF x1 w.heap.size (w.heap.size + 1 + 1) [.int .i64 a0, .int .i64 a1]) := Lib.hid (by have := (BlkF.made (B := w.heap.size) ((w.alloc (.cells #[.string nm, .int .i64 s, .slice A gn gc, .slice B dn dc] 40)).alloc (.cells #[.slice AT tn tc, .int .i64 r.a, .int .i64 r.b, .int .i64 r.nc, .int .i64 r.dn, .int .i64 r.br, .int .i64 r.em, .int .i64 r.pa, .int .i64 r.sc] 26)) [.int .i64 a0, .int .i64 a1] 55 (by first | exact Nat.le_refl _ | (simp; done) | (simp; omega))).below hb1; simpa using this)
  have zTB1 := TB.out.lt
  clear hb1
  obtain ⟨PB_1_0, PB_1_1, PB_1_2, PB_1_3⟩ := b4 PB.out
  have lPB_1 := PB.out.lt
  have nPB_1 : x1.heap.size ≠ w.heap.size := by omega
  have mPB_1 : w.heap.size ≠ x1.heap.size := by omega
  obtain ⟨RB_1_0, RB_1_1, RB_1_2, RB_1_3, RB_1_4, RB_1_5, RB_1_6, RB_1_7, RB_1_8⟩ := b9 RB.out
  have lRB_1 := RB.out.lt
  have nRB_1 : x1.heap.size ≠ w.heap.size + 1 := by omega
  have mRB_1 : w.heap.size + 1 ≠ x1.heap.size := by omega
  obtain ⟨TB_1_0, TB_1_1⟩ := b2 TB.out
  have lTB_1 := TB.out.lt
  have nTB_1 : x1.heap.size ≠ w.heap.size + 1 + 1 := by omega
  have mTB_1 : w.heap.size + 1 + 1 ≠ x1.heap.size := by omega
  go_wp2_with fail
  refine (Short_is nm s G D A B gn gc dn dc true _ hz hgl hdl hS).mono ?_
  rintro e x2 ⟨rfl, hb2⟩
  have hc2 : Below x1.heap.size x1 x2 := hb2
  have hB2 : Below w.heap.size w x2 := hB1.trans (hc2.mono hB1.size)
  have zu2 := hB2.size
  replace PB := Lib.hid (PB.out.below hc2)
  replace RB := Lib.hid (RB.out.below hc2)
  replace TB := Lib.hid (TB.out.below hc2)
  clear PB_1_0 PB_1_1 PB_1_2 PB_1_3 lPB_1 nPB_1 mPB_1 RB_1_0 RB_1_1 RB_1_2 RB_1_3 RB_1_4 RB_1_5 RB_1_6 RB_1_7 RB_1_8 lRB_1 nRB_1 mRB_1 TB_1_0 TB_1_1 lTB_1 nTB_1 mTB_1
  clear hb2 hB1 zu1 hc1
  obtain ⟨PB_2_0, PB_2_1, PB_2_2, PB_2_3⟩ := b4 PB.out
  have lPB_2 := PB.out.lt
  have nPB_2 : x2.heap.size ≠ w.heap.size := by omega
  have mPB_2 : w.heap.size ≠ x2.heap.size := by omega
  obtain ⟨RB_2_0, RB_2_1, RB_2_2, RB_2_3, RB_2_4, RB_2_5, RB_2_6, RB_2_7, RB_2_8⟩ := b9 RB.out
  have lRB_2 := RB.out.lt
  have nRB_2 : x2.heap.size ≠ w.heap.size + 1 := by omega
  have mRB_2 : w.heap.size + 1 ≠ x2.heap.size := by omega
  obtain ⟨TB_2_0, TB_2_1⟩ := b2 TB.out
  have lTB_2 := TB.out.lt
  have nTB_2 : x2.heap.size ≠ w.heap.size + 1 + 1 := by omega
  have mTB_2 : w.heap.size + 1 + 1 ≠ x2.heap.size := by omega
  go_wp2_with fail
  refine (few_is r AT tn tc true _ htl hF).mono ?_
  rintro e x3 ⟨rfl, hb3⟩
  have hc3 : Below x2.heap.size x2 x3 := hb3
  have hB3 : Below w.heap.size w x3 := hB2.trans (hc3.mono hB2.size)
  have zu3 := hB3.size
  replace PB := Lib.hid (PB.out.below hc3)
  replace RB := Lib.hid (RB.out.below hc3)
  replace TB := Lib.hid (TB.out.below hc3)
  clear PB_2_0 PB_2_1 PB_2_2 PB_2_3 lPB_2 nPB_2 mPB_2 RB_2_0 RB_2_1 RB_2_2 RB_2_3 RB_2_4 RB_2_5 RB_2_6 RB_2_7 RB_2_8 lRB_2 nRB_2 mRB_2 TB_2_0 TB_2_1 lTB_2 nTB_2 mTB_2
  clear hb3 hB2 zu2 hc2
  obtain ⟨PB_3_0, PB_3_1, PB_3_2, PB_3_3⟩ := b4 PB.out
  have lPB_3 := PB.out.lt
  have nPB_3 : x3.heap.size ≠ w.heap.size := by omega
  have mPB_3 : w.heap.size ≠ x3.heap.size := by omega
  obtain ⟨RB_3_0, RB_3_1, RB_3_2, RB_3_3, RB_3_4, RB_3_5, RB_3_6, RB_3_7, RB_3_8⟩ := b9 RB.out
  have lRB_3 := RB.out.lt
  have nRB_3 : x3.heap.size ≠ w.heap.size + 1 := by omega
  have mRB_3 : w.heap.size + 1 ≠ x3.heap.size := by omega
  obtain ⟨TB_3_0, TB_3_1⟩ := b2 TB.out
  have lTB_3 := TB.out.lt
  have nTB_3 : x3.heap.size ≠ w.heap.size + 1 + 1 := by omega
  have mTB_3 : w.heap.size + 1 + 1 ≠ x3.heap.size := by omega
  go_wp2_with fail
  refine (refBoth_any nm s G D A B gn gc dn dc T r AT tn tc N 0 0 0 _ hz6 hgn hgl hdn hdl (Lib.hid (hG.out.below (by (repeat (first | (with_reducible refine Below.drew ?_) | (with_reducible refine below_drewN ?_ _) | (with_reducible refine Below.alloc ?_ (by first | omega | (simp; done) | (simp; omega) | (simp at *; omega)) _) | (with_reducible refine Below.setCell ?_ (by first | omega | (simp; done) | (simp; omega) | (simp at *; omega)) _) | (with_reducible exact Below.refl _ _) | (with_reducible assumption) | (with_reducible refine Below.trans ?_ (Below.mono (by assumption) (by first | omega | (simp; done) | (simp; omega) | (simp at *; omega))))))))) (Lib.hid (hD.out.below (by (repeat (first | (with_reducible refine Below.drew ?_) | (with_reducible refine below_drewN ?_ _) | (with_reducible refine Below.alloc ?_ (by first | omega | (simp; done) | (simp; omega) | (simp at *; omega)) _) | (with_reducible refine Below.setCell ?_ (by first | omega | (simp; done) | (simp; omega) | (simp at *; omega)) _) | (with_reducible exact Below.refl _ _) | (with_reducible assumption) | (with_reducible refine Below.trans ?_ (Below.mono (by assumption) (by first | omega | (simp; done) | (simp; omega) | (simp at *; omega))))))))) hE0 htn htl (Lib.hid (hT.out.below (by (repeat (first | (with_reducible refine Below.drew ?_) | (with_reducible refine below_drewN ?_ _) | (with_reducible refine Below.alloc ?_ (by first | omega | (simp; done) | (simp; omega) | (simp at *; omega)) _) | (with_reducible refine Below.setCell ?_ (by first | omega | (simp; done) | (simp; omega) | (simp at *; omega)) _) | (with_reducible exact Below.refl _ _) | (with_reducible assumption) | (with_reducible refine Below.trans ?_ (Below.mono (by assumption) (by first | omega | (simp; done) | (simp; omega) | (simp at *; omega))))))))) hE1 hE).mono ?_
  rintro e x4 ⟨rfl, hb4⟩
  have hc4 : Below x3.heap.size x3 x4 := hb4
  have hB4 : Below w.heap.size w x4 := hB3.trans (hc4.mono hB3.size)
  have zu4 := hB4.size
  replace PB := Lib.hid (PB.out.below hc4)
  replace RB := Lib.hid (RB.out.below hc4)
  replace TB := Lib.hid (TB.out.below hc4)
  clear PB_3_0 PB_3_1 PB_3_2 PB_3_3 lPB_3 nPB_3 mPB_3 RB_3_0 RB_3_1 RB_3_2 RB_3_3 RB_3_4 RB_3_5 RB_3_6 RB_3_7 RB_3_8 lRB_3 nRB_3 mRB_3 TB_3_0 TB_3_1 lTB_3 nTB_3 mTB_3
  clear hb4 hB3 zu3 hc3
  obtain ⟨PB_4_0, PB_4_1, PB_4_2, PB_4_3⟩ := b4 PB.out
  have lPB_4 := PB.out.lt
  have nPB_4 : x4.heap.size ≠ w.heap.size := by omega
  have mPB_4 : w.heap.size ≠ x4.heap.size := by omega
  obtain ⟨RB_4_0, RB_4_1, RB_4_2, RB_4_3, RB_4_4, RB_4_5, RB_4_6, RB_4_7, RB_4_8⟩ := b9 RB.out
  have lRB_4 := RB.out.lt
  have nRB_4 : x4.heap.size ≠ w.heap.size + 1 := by omega
  have mRB_4 : w.heap.size + 1 ≠ x4.heap.size := by omega
  obtain ⟨TB_4_0, TB_4_1⟩ := b2 TB.out
  have lTB_4 := TB.out.lt
  have nTB_4 : x4.heap.size ≠ w.heap.size + 1 + 1 := by omega
  have mTB_4 : w.heap.size + 1 + 1 ≠ x4.heap.size := by omega
  go_wp2_with fail
  refine (wB3 a0 0 ((dn : Int) - 1) false _ hi0).mono ?_
  rintro e x5 ⟨rfl, hb5⟩
  have hc5 : Below x4.heap.size x4 x5 := hb5
  have hB5 : Below w.heap.size w x5 := hB4.trans (hc5.mono hB4.size)
  have zu5 := hB5.size
  replace PB := Lib.hid (PB.out.below hc5)
  replace RB := Lib.hid (RB.out.below hc5)
  replace TB := Lib.hid (TB.out.below hc5)
  clear PB_4_0 PB_4_1 PB_4_2 PB_4_3 lPB_4 nPB_4 mPB_4 RB_4_0 RB_4_1 RB_4_2 RB_4_3 RB_4_4 RB_4_5 RB_4_6 RB_4_7 RB_4_8 lRB_4 nRB_4 mRB_4 TB_4_0 TB_4_1 lTB_4 nTB_4 mTB_4
  clear hb5 hB4 zu4 hc4
  obtain ⟨PB_5_0, PB_5_1, PB_5_2, PB_5_3⟩ := b4 PB.out
  have lPB_5 := PB.out.lt
  have nPB_5 : x5.heap.size ≠ w.heap.size := by omega
  have mPB_5 : w.heap.size ≠ x5.heap.size := by omega
  obtain ⟨RB_5_0, RB_5_1, RB_5_2, RB_5_3, RB_5_4, RB_5_5, RB_5_6, RB_5_7, RB_5_8⟩ := b9 RB.out
  have lRB_5 := RB.out.lt
  have nRB_5 : x5.heap.size ≠ w.heap.size + 1 := by omega
  have mRB_5 : w.heap.size + 1 ≠ x5.heap.size := by omega
  obtain ⟨TB_5_0, TB_5_1⟩ := b2 TB.out
  have lTB_5 := TB.out.lt
  have nTB_5 : x5.heap.size ≠ w.heap.size + 1 + 1 := by omega
  have mTB_5 : w.heap.size + 1 + 1 ≠ x5.heap.size := by omega
  go_wp2
  go_ret
  exact ⟨rfl, hB5⟩
set_option maxRecDepth 100000 in
set_option maxHeartbeats 8000000 in
theorem sp_sec (nm : ByteArray) (s : Int) (G : List Ga) (D : List Le) (A B : Option Addr) (gn gc dn dc : Nat) (T : List Ox) (r : Ru) (AT : Option Addr) (tn tc : Nat) (a0 a1 : Int) (N : Nat) (w : World) (hz : nm.size ≤ 9223372036854775807) (hgn : Hid (gn = G.length)) (hgl : gn ≤ 9223372036854775807) (hdn : Hid (dn = D.length)) (hdl : dn ≤ 9223372036854775807) (hG : Hid (SlRows gaV 2 w A G)) (hD : Hid (SlRows leV 3 w B D)) (CG : Hid (A = none → gn = 0 ∧ gc = 0)) (CD : Hid (B = none → dn = 0 ∧ dc = 0)) (htn : Hid (tn = T.length)) (htl : tn ≤ 9223372036854775807) (hT : Hid (SlRows oxV 2 w AT T)) (CT : Hid (AT = none → tn = 0 ∧ tc = 0)) (hS : Hid (shortB nm.size dn gn = true)) (hF : Hid (fewB tn = true)) (hE0 : Hid (plnP nm s G D = (N, 0))) (hE1 : Hid (ruE T r = 0)) (hE : Hid (firE [0, 0] = 0)) (hi0 : Hid (inB a0 0 ((dn : Int) - 1) = true)) (hi1 : Hid (inB a1 0 1000000 = false)) :
    Calls Try.prog 5 #[.agg #[.string nm, .int .i64 s, .slice A gn gc, .slice B dn dc], .agg #[.slice AT tn tc, .int .i64 r.a, .int .i64 r.b, .int .i64 r.nc, .int .i64 r.dn, .int .i64 r.br, .int .i64 r.em, .int .i64 r.pa, .int .i64 r.sc], .agg #[.int .i64 a0, .int .i64 a1]] w fun e w' => e = .returned (.bool true) ∧ Below w.heap.size w w' := by
  have hsb := shortB_le hS.out
  have hz6 : nm.size ≤ 1000000 := by omega
  have hg6 : gn ≤ 1000000 := by omega
  have hd6 : dn ≤ 1000000 := by omega
  have ht22 : tn ≤ 22 := fewB_le hF.out
  have ht6 : tn ≤ 1000000 := by omega
  have wd1 : IntKind.i64.wrap ((dn : Int) - 1) = (dn : Int) - 1 := IntWalk.i64_in _ (by omega)
  go_enter Try.func5, Try.ntmps5
  go_wp2_with fail
  refine (awake_any _).mono ?_
  rintro e x1 ⟨rfl, hb1⟩
  have hc1 : Below w.heap.size w x1 := ((((Below.refl _ _).alloc (by first | exact Nat.le_refl _ | (simp; done) | (simp; omega)) _).alloc (by first | exact Nat.le_refl _ | (simp; done) | (simp; omega)) _).alloc (by first | exact Nat.le_refl _ | (simp; done) | (simp; omega)) _).trans (hb1.mono (by first | exact Nat.le_refl _ | (simp; done) | (simp; omega)))
  have hB1 : Below w.heap.size w x1 := hc1
  have zu1 := hB1.size
  have PB : Hid (BlkF x1 w.heap.size (w.heap.size) [.string nm, .int .i64 s, .slice A gn gc, .slice B dn dc]) := Lib.hid ((((BlkF.made (B := w.heap.size) w [.string nm, .int .i64 s, .slice A gn gc, .slice B dn dc] 40 (by first | exact Nat.le_refl _ | (simp; done) | (simp; omega))).below ((Below.refl _ _).alloc (Nat.le_refl _) _)).below ((Below.refl _ _).alloc (Nat.le_refl _) _)).below hb1)
  have zPB1 := PB.out.lt
  have RB : Hid (BlkF x1 w.heap.size (w.heap.size + 1) [.slice AT tn tc, .int .i64 r.a, .int .i64 r.b, .int .i64 r.nc, .int .i64 r.dn, .int .i64 r.br, .int .i64 r.em, .int .i64 r.pa, .int .i64 r.sc]) := Lib.hid (by have := ((BlkF.made (B := w.heap.size) (w.alloc (.cells #[.string nm, .int .i64 s, .slice A gn gc, .slice B dn dc] 40)) [.slice AT tn tc, .int .i64 r.a, .int .i64 r.b, .int .i64 r.nc, .int .i64 r.dn, .int .i64 r.br, .int .i64 r.em, .int .i64 r.pa, .int .i64 r.sc] 26 (by first | exact Nat.le_refl _ | (simp; done) | (simp; omega))).below ((Below.refl _ _).alloc (Nat.le_refl _) _)).below hb1; simpa using this)
  have zRB1 := RB.out.lt
  have TB : Hid (BlkF x1 w.heap.size (w.heap.size + 1 + 1) [.int .i64 a0, .int .i64 a1]) := Lib.hid (by have := (BlkF.made (B := w.heap.size) ((w.alloc (.cells #[.string nm, .int .i64 s, .slice A gn gc, .slice B dn dc] 40)).alloc (.cells #[.slice AT tn tc, .int .i64 r.a, .int .i64 r.b, .int .i64 r.nc, .int .i64 r.dn, .int .i64 r.br, .int .i64 r.em, .int .i64 r.pa, .int .i64 r.sc] 26)) [.int .i64 a0, .int .i64 a1] 55 (by first | exact Nat.le_refl _ | (simp; done) | (simp; omega))).below hb1; simpa using this)
  have zTB1 := TB.out.lt
  clear hb1
  obtain ⟨PB_1_0, PB_1_1, PB_1_2, PB_1_3⟩ := b4 PB.out
  have lPB_1 := PB.out.lt
  have nPB_1 : x1.heap.size ≠ w.heap.size := by omega
  have mPB_1 : w.heap.size ≠ x1.heap.size := by omega
  obtain ⟨RB_1_0, RB_1_1, RB_1_2, RB_1_3, RB_1_4, RB_1_5, RB_1_6, RB_1_7, RB_1_8⟩ := b9 RB.out
  have lRB_1 := RB.out.lt
  have nRB_1 : x1.heap.size ≠ w.heap.size + 1 := by omega
  have mRB_1 : w.heap.size + 1 ≠ x1.heap.size := by omega
  obtain ⟨TB_1_0, TB_1_1⟩ := b2 TB.out
  have lTB_1 := TB.out.lt
  have nTB_1 : x1.heap.size ≠ w.heap.size + 1 + 1 := by omega
  have mTB_1 : w.heap.size + 1 + 1 ≠ x1.heap.size := by omega
  go_wp2_with fail
  refine (Short_is nm s G D A B gn gc dn dc true _ hz hgl hdl hS).mono ?_
  rintro e x2 ⟨rfl, hb2⟩
  have hc2 : Below x1.heap.size x1 x2 := hb2
  have hB2 : Below w.heap.size w x2 := hB1.trans (hc2.mono hB1.size)
  have zu2 := hB2.size
  replace PB := Lib.hid (PB.out.below hc2)
  replace RB := Lib.hid (RB.out.below hc2)
  replace TB := Lib.hid (TB.out.below hc2)
  clear PB_1_0 PB_1_1 PB_1_2 PB_1_3 lPB_1 nPB_1 mPB_1 RB_1_0 RB_1_1 RB_1_2 RB_1_3 RB_1_4 RB_1_5 RB_1_6 RB_1_7 RB_1_8 lRB_1 nRB_1 mRB_1 TB_1_0 TB_1_1 lTB_1 nTB_1 mTB_1
  clear hb2 hB1 zu1 hc1
  obtain ⟨PB_2_0, PB_2_1, PB_2_2, PB_2_3⟩ := b4 PB.out
  have lPB_2 := PB.out.lt
  have nPB_2 : x2.heap.size ≠ w.heap.size := by omega
  have mPB_2 : w.heap.size ≠ x2.heap.size := by omega
  obtain ⟨RB_2_0, RB_2_1, RB_2_2, RB_2_3, RB_2_4, RB_2_5, RB_2_6, RB_2_7, RB_2_8⟩ := b9 RB.out
  have lRB_2 := RB.out.lt
  have nRB_2 : x2.heap.size ≠ w.heap.size + 1 := by omega
  have mRB_2 : w.heap.size + 1 ≠ x2.heap.size := by omega
  obtain ⟨TB_2_0, TB_2_1⟩ := b2 TB.out
  have lTB_2 := TB.out.lt
  have nTB_2 : x2.heap.size ≠ w.heap.size + 1 + 1 := by omega
  have mTB_2 : w.heap.size + 1 + 1 ≠ x2.heap.size := by omega
  go_wp2_with fail
  refine (few_is r AT tn tc true _ htl hF).mono ?_
  rintro e x3 ⟨rfl, hb3⟩
  have hc3 : Below x2.heap.size x2 x3 := hb3
  have hB3 : Below w.heap.size w x3 := hB2.trans (hc3.mono hB2.size)
  have zu3 := hB3.size
  replace PB := Lib.hid (PB.out.below hc3)
  replace RB := Lib.hid (RB.out.below hc3)
  replace TB := Lib.hid (TB.out.below hc3)
  clear PB_2_0 PB_2_1 PB_2_2 PB_2_3 lPB_2 nPB_2 mPB_2 RB_2_0 RB_2_1 RB_2_2 RB_2_3 RB_2_4 RB_2_5 RB_2_6 RB_2_7 RB_2_8 lRB_2 nRB_2 mRB_2 TB_2_0 TB_2_1 lTB_2 nTB_2 mTB_2
  clear hb3 hB2 zu2 hc2
  obtain ⟨PB_3_0, PB_3_1, PB_3_2, PB_3_3⟩ := b4 PB.out
  have lPB_3 := PB.out.lt
  have nPB_3 : x3.heap.size ≠ w.heap.size := by omega
  have mPB_3 : w.heap.size ≠ x3.heap.size := by omega
  obtain ⟨RB_3_0, RB_3_1, RB_3_2, RB_3_3, RB_3_4, RB_3_5, RB_3_6, RB_3_7, RB_3_8⟩ := b9 RB.out
  have lRB_3 := RB.out.lt
  have nRB_3 : x3.heap.size ≠ w.heap.size + 1 := by omega
  have mRB_3 : w.heap.size + 1 ≠ x3.heap.size := by omega
  obtain ⟨TB_3_0, TB_3_1⟩ := b2 TB.out
  have lTB_3 := TB.out.lt
  have nTB_3 : x3.heap.size ≠ w.heap.size + 1 + 1 := by omega
  have mTB_3 : w.heap.size + 1 + 1 ≠ x3.heap.size := by omega
  go_wp2_with fail
  refine (refBoth_any nm s G D A B gn gc dn dc T r AT tn tc N 0 0 0 _ hz6 hgn hgl hdn hdl (Lib.hid (hG.out.below (by (repeat (first | (with_reducible refine Below.drew ?_) | (with_reducible refine below_drewN ?_ _) | (with_reducible refine Below.alloc ?_ (by first | omega | (simp; done) | (simp; omega) | (simp at *; omega)) _) | (with_reducible refine Below.setCell ?_ (by first | omega | (simp; done) | (simp; omega) | (simp at *; omega)) _) | (with_reducible exact Below.refl _ _) | (with_reducible assumption) | (with_reducible refine Below.trans ?_ (Below.mono (by assumption) (by first | omega | (simp; done) | (simp; omega) | (simp at *; omega))))))))) (Lib.hid (hD.out.below (by (repeat (first | (with_reducible refine Below.drew ?_) | (with_reducible refine below_drewN ?_ _) | (with_reducible refine Below.alloc ?_ (by first | omega | (simp; done) | (simp; omega) | (simp at *; omega)) _) | (with_reducible refine Below.setCell ?_ (by first | omega | (simp; done) | (simp; omega) | (simp at *; omega)) _) | (with_reducible exact Below.refl _ _) | (with_reducible assumption) | (with_reducible refine Below.trans ?_ (Below.mono (by assumption) (by first | omega | (simp; done) | (simp; omega) | (simp at *; omega))))))))) hE0 htn htl (Lib.hid (hT.out.below (by (repeat (first | (with_reducible refine Below.drew ?_) | (with_reducible refine below_drewN ?_ _) | (with_reducible refine Below.alloc ?_ (by first | omega | (simp; done) | (simp; omega) | (simp at *; omega)) _) | (with_reducible refine Below.setCell ?_ (by first | omega | (simp; done) | (simp; omega) | (simp at *; omega)) _) | (with_reducible exact Below.refl _ _) | (with_reducible assumption) | (with_reducible refine Below.trans ?_ (Below.mono (by assumption) (by first | omega | (simp; done) | (simp; omega) | (simp at *; omega))))))))) hE1 hE).mono ?_
  rintro e x4 ⟨rfl, hb4⟩
  have hc4 : Below x3.heap.size x3 x4 := hb4
  have hB4 : Below w.heap.size w x4 := hB3.trans (hc4.mono hB3.size)
  have zu4 := hB4.size
  replace PB := Lib.hid (PB.out.below hc4)
  replace RB := Lib.hid (RB.out.below hc4)
  replace TB := Lib.hid (TB.out.below hc4)
  clear PB_3_0 PB_3_1 PB_3_2 PB_3_3 lPB_3 nPB_3 mPB_3 RB_3_0 RB_3_1 RB_3_2 RB_3_3 RB_3_4 RB_3_5 RB_3_6 RB_3_7 RB_3_8 lRB_3 nRB_3 mRB_3 TB_3_0 TB_3_1 lTB_3 nTB_3 mTB_3
  clear hb4 hB3 zu3 hc3
  obtain ⟨PB_4_0, PB_4_1, PB_4_2, PB_4_3⟩ := b4 PB.out
  have lPB_4 := PB.out.lt
  have nPB_4 : x4.heap.size ≠ w.heap.size := by omega
  have mPB_4 : w.heap.size ≠ x4.heap.size := by omega
  obtain ⟨RB_4_0, RB_4_1, RB_4_2, RB_4_3, RB_4_4, RB_4_5, RB_4_6, RB_4_7, RB_4_8⟩ := b9 RB.out
  have lRB_4 := RB.out.lt
  have nRB_4 : x4.heap.size ≠ w.heap.size + 1 := by omega
  have mRB_4 : w.heap.size + 1 ≠ x4.heap.size := by omega
  obtain ⟨TB_4_0, TB_4_1⟩ := b2 TB.out
  have lTB_4 := TB.out.lt
  have nTB_4 : x4.heap.size ≠ w.heap.size + 1 + 1 := by omega
  have mTB_4 : w.heap.size + 1 + 1 ≠ x4.heap.size := by omega
  go_wp2_with fail
  refine (wB3 a0 0 ((dn : Int) - 1) true _ hi0).mono ?_
  rintro e x5 ⟨rfl, hb5⟩
  have hc5 : Below x4.heap.size x4 x5 := hb5
  have hB5 : Below w.heap.size w x5 := hB4.trans (hc5.mono hB4.size)
  have zu5 := hB5.size
  replace PB := Lib.hid (PB.out.below hc5)
  replace RB := Lib.hid (RB.out.below hc5)
  replace TB := Lib.hid (TB.out.below hc5)
  clear PB_4_0 PB_4_1 PB_4_2 PB_4_3 lPB_4 nPB_4 mPB_4 RB_4_0 RB_4_1 RB_4_2 RB_4_3 RB_4_4 RB_4_5 RB_4_6 RB_4_7 RB_4_8 lRB_4 nRB_4 mRB_4 TB_4_0 TB_4_1 lTB_4 nTB_4 mTB_4
  clear hb5 hB4 zu4 hc4
  obtain ⟨PB_5_0, PB_5_1, PB_5_2, PB_5_3⟩ := b4 PB.out
  have lPB_5 := PB.out.lt
  have nPB_5 : x5.heap.size ≠ w.heap.size := by omega
  have mPB_5 : w.heap.size ≠ x5.heap.size := by omega
  obtain ⟨RB_5_0, RB_5_1, RB_5_2, RB_5_3, RB_5_4, RB_5_5, RB_5_6, RB_5_7, RB_5_8⟩ := b9 RB.out
  have lRB_5 := RB.out.lt
  have nRB_5 : x5.heap.size ≠ w.heap.size + 1 := by omega
  have mRB_5 : w.heap.size + 1 ≠ x5.heap.size := by omega
  obtain ⟨TB_5_0, TB_5_1⟩ := b2 TB.out
  have lTB_5 := TB.out.lt
  have nTB_5 : x5.heap.size ≠ w.heap.size + 1 + 1 := by omega
  have mTB_5 : w.heap.size + 1 + 1 ≠ x5.heap.size := by omega
  go_wp2_with fail
  refine (wB3 a1 0 1000000 false _ hi1).mono ?_
  rintro e x6 ⟨rfl, hb6⟩
  have hc6 : Below x5.heap.size x5 x6 := hb6
  have hB6 : Below w.heap.size w x6 := hB5.trans (hc6.mono hB5.size)
  have zu6 := hB6.size
  replace PB := Lib.hid (PB.out.below hc6)
  replace RB := Lib.hid (RB.out.below hc6)
  replace TB := Lib.hid (TB.out.below hc6)
  clear PB_5_0 PB_5_1 PB_5_2 PB_5_3 lPB_5 nPB_5 mPB_5 RB_5_0 RB_5_1 RB_5_2 RB_5_3 RB_5_4 RB_5_5 RB_5_6 RB_5_7 RB_5_8 lRB_5 nRB_5 mRB_5 TB_5_0 TB_5_1 lTB_5 nTB_5 mTB_5
  clear hb6 hB5 zu5 hc5
  obtain ⟨PB_6_0, PB_6_1, PB_6_2, PB_6_3⟩ := b4 PB.out
  have lPB_6 := PB.out.lt
  have nPB_6 : x6.heap.size ≠ w.heap.size := by omega
  have mPB_6 : w.heap.size ≠ x6.heap.size := by omega
  obtain ⟨RB_6_0, RB_6_1, RB_6_2, RB_6_3, RB_6_4, RB_6_5, RB_6_6, RB_6_7, RB_6_8⟩ := b9 RB.out
  have lRB_6 := RB.out.lt
  have nRB_6 : x6.heap.size ≠ w.heap.size + 1 := by omega
  have mRB_6 : w.heap.size + 1 ≠ x6.heap.size := by omega
  obtain ⟨TB_6_0, TB_6_1⟩ := b2 TB.out
  have lTB_6 := TB.out.lt
  have nTB_6 : x6.heap.size ≠ w.heap.size + 1 + 1 := by omega
  have mTB_6 : w.heap.size + 1 + 1 ≠ x6.heap.size := by omega
  go_wp2
  go_ret
  exact ⟨rfl, hB6⟩
set_option maxRecDepth 100000 in
set_option maxHeartbeats 8000000 in
theorem sp_bad (nm : ByteArray) (s : Int) (G : List Ga) (D : List Le) (A B : Option Addr) (gn gc dn dc : Nat) (T : List Ox) (r : Ru) (AT : Option Addr) (tn tc : Nat) (a1 : Int) (N k : Nat) (w : World) (hz : nm.size ≤ 9223372036854775807) (hgn : Hid (gn = G.length)) (hgl : gn ≤ 9223372036854775807) (hdn : Hid (dn = D.length)) (hdl : dn ≤ 9223372036854775807) (hG : Hid (SlRows gaV 2 w A G)) (hD : Hid (SlRows leV 3 w B D)) (CG : Hid (A = none → gn = 0 ∧ gc = 0)) (CD : Hid (B = none → dn = 0 ∧ dc = 0)) (htn : Hid (tn = T.length)) (htl : tn ≤ 9223372036854775807) (hT : Hid (SlRows oxV 2 w AT T)) (CT : Hid (AT = none → tn = 0 ∧ tc = 0)) (hS : Hid (shortB nm.size dn gn = true)) (hF : Hid (fewB tn = true)) (hE0 : Hid (plnP nm s G D = (N, 0))) (hE1 : Hid (ruE T r = 0)) (hE : Hid (firE [0, 0] = 0)) (hi0 : Hid (inB (k : Int) 0 ((dn : Int) - 1) = true)) (hi1 : Hid (inB a1 0 1000000 = true)) (hk : k < dn) (hbad : Hid (¬ (0 < a1 ∧ a1 < (legK s G D k).s ∧ mdI (((legK s G D k).d - (legK s G D k).bd) * a1) (legK s G D k).s = 0))) :
    Calls Try.prog 5 #[.agg #[.string nm, .int .i64 s, .slice A gn gc, .slice B dn dc], .agg #[.slice AT tn tc, .int .i64 r.a, .int .i64 r.b, .int .i64 r.nc, .int .i64 r.dn, .int .i64 r.br, .int .i64 r.em, .int .i64 r.pa, .int .i64 r.sc], .agg #[.int .i64 (k : Int), .int .i64 a1]] w fun e w' => e = .returned (.bool true) ∧ Below w.heap.size w w' := by
  have hok := Lib.hid (pln_ok hE0.out)
  have hd60 : dn ≤ 60 := by have := hok.out.d6; have := hdn.out; omega
  have hqq := inB_iff.1 hi1.out
  have q0 := hqq.1
  have q1 := hqq.2
  have hsb := shortB_le hS.out
  have hz6 : nm.size ≤ 1000000 := by omega
  have hg6 : gn ≤ 1000000 := by omega
  have hd6 : dn ≤ 1000000 := by omega
  have ht22 : tn ≤ 22 := fewB_le hF.out
  have ht6 : tn ≤ 1000000 := by omega
  have wd1 : IntKind.i64.wrap ((dn : Int) - 1) = (dn : Int) - 1 := IntWalk.i64_in _ (by omega)
  go_enter Try.func5, Try.ntmps5
  go_wp2_with fail
  refine (awake_any _).mono ?_
  rintro e x1 ⟨rfl, hb1⟩
  have hc1 : Below w.heap.size w x1 := ((((Below.refl _ _).alloc (by first | exact Nat.le_refl _ | (simp; done) | (simp; omega)) _).alloc (by first | exact Nat.le_refl _ | (simp; done) | (simp; omega)) _).alloc (by first | exact Nat.le_refl _ | (simp; done) | (simp; omega)) _).trans (hb1.mono (by first | exact Nat.le_refl _ | (simp; done) | (simp; omega)))
  have hB1 : Below w.heap.size w x1 := hc1
  have zu1 := hB1.size
  have PB : Hid (BlkF x1 w.heap.size (w.heap.size) [.string nm, .int .i64 s, .slice A gn gc, .slice B dn dc]) := Lib.hid ((((BlkF.made (B := w.heap.size) w [.string nm, .int .i64 s, .slice A gn gc, .slice B dn dc] 40 (by first | exact Nat.le_refl _ | (simp; done) | (simp; omega))).below ((Below.refl _ _).alloc (Nat.le_refl _) _)).below ((Below.refl _ _).alloc (Nat.le_refl _) _)).below hb1)
  have zPB1 := PB.out.lt
  have RB : Hid (BlkF x1 w.heap.size (w.heap.size + 1) [.slice AT tn tc, .int .i64 r.a, .int .i64 r.b, .int .i64 r.nc, .int .i64 r.dn, .int .i64 r.br, .int .i64 r.em, .int .i64 r.pa, .int .i64 r.sc]) := Lib.hid (by have := ((BlkF.made (B := w.heap.size) (w.alloc (.cells #[.string nm, .int .i64 s, .slice A gn gc, .slice B dn dc] 40)) [.slice AT tn tc, .int .i64 r.a, .int .i64 r.b, .int .i64 r.nc, .int .i64 r.dn, .int .i64 r.br, .int .i64 r.em, .int .i64 r.pa, .int .i64 r.sc] 26 (by first | exact Nat.le_refl _ | (simp; done) | (simp; omega))).below ((Below.refl _ _).alloc (Nat.le_refl _) _)).below hb1; simpa using this)
  have zRB1 := RB.out.lt
  have TB : Hid (BlkF x1 w.heap.size (w.heap.size + 1 + 1) [.int .i64 (k : Int), .int .i64 a1]) := Lib.hid (by have := (BlkF.made (B := w.heap.size) ((w.alloc (.cells #[.string nm, .int .i64 s, .slice A gn gc, .slice B dn dc] 40)).alloc (.cells #[.slice AT tn tc, .int .i64 r.a, .int .i64 r.b, .int .i64 r.nc, .int .i64 r.dn, .int .i64 r.br, .int .i64 r.em, .int .i64 r.pa, .int .i64 r.sc] 26)) [.int .i64 (k : Int), .int .i64 a1] 55 (by first | exact Nat.le_refl _ | (simp; done) | (simp; omega))).below hb1; simpa using this)
  have zTB1 := TB.out.lt
  clear hb1
  obtain ⟨PB_1_0, PB_1_1, PB_1_2, PB_1_3⟩ := b4 PB.out
  have lPB_1 := PB.out.lt
  have nPB_1 : x1.heap.size ≠ w.heap.size := by omega
  have mPB_1 : w.heap.size ≠ x1.heap.size := by omega
  obtain ⟨RB_1_0, RB_1_1, RB_1_2, RB_1_3, RB_1_4, RB_1_5, RB_1_6, RB_1_7, RB_1_8⟩ := b9 RB.out
  have lRB_1 := RB.out.lt
  have nRB_1 : x1.heap.size ≠ w.heap.size + 1 := by omega
  have mRB_1 : w.heap.size + 1 ≠ x1.heap.size := by omega
  obtain ⟨TB_1_0, TB_1_1⟩ := b2 TB.out
  have lTB_1 := TB.out.lt
  have nTB_1 : x1.heap.size ≠ w.heap.size + 1 + 1 := by omega
  have mTB_1 : w.heap.size + 1 + 1 ≠ x1.heap.size := by omega
  go_wp2_with fail
  refine (Short_is nm s G D A B gn gc dn dc true _ hz hgl hdl hS).mono ?_
  rintro e x2 ⟨rfl, hb2⟩
  have hc2 : Below x1.heap.size x1 x2 := hb2
  have hB2 : Below w.heap.size w x2 := hB1.trans (hc2.mono hB1.size)
  have zu2 := hB2.size
  replace PB := Lib.hid (PB.out.below hc2)
  replace RB := Lib.hid (RB.out.below hc2)
  replace TB := Lib.hid (TB.out.below hc2)
  clear PB_1_0 PB_1_1 PB_1_2 PB_1_3 lPB_1 nPB_1 mPB_1 RB_1_0 RB_1_1 RB_1_2 RB_1_3 RB_1_4 RB_1_5 RB_1_6 RB_1_7 RB_1_8 lRB_1 nRB_1 mRB_1 TB_1_0 TB_1_1 lTB_1 nTB_1 mTB_1
  clear hb2 hB1 zu1 hc1
  obtain ⟨PB_2_0, PB_2_1, PB_2_2, PB_2_3⟩ := b4 PB.out
  have lPB_2 := PB.out.lt
  have nPB_2 : x2.heap.size ≠ w.heap.size := by omega
  have mPB_2 : w.heap.size ≠ x2.heap.size := by omega
  obtain ⟨RB_2_0, RB_2_1, RB_2_2, RB_2_3, RB_2_4, RB_2_5, RB_2_6, RB_2_7, RB_2_8⟩ := b9 RB.out
  have lRB_2 := RB.out.lt
  have nRB_2 : x2.heap.size ≠ w.heap.size + 1 := by omega
  have mRB_2 : w.heap.size + 1 ≠ x2.heap.size := by omega
  obtain ⟨TB_2_0, TB_2_1⟩ := b2 TB.out
  have lTB_2 := TB.out.lt
  have nTB_2 : x2.heap.size ≠ w.heap.size + 1 + 1 := by omega
  have mTB_2 : w.heap.size + 1 + 1 ≠ x2.heap.size := by omega
  go_wp2_with fail
  refine (few_is r AT tn tc true _ htl hF).mono ?_
  rintro e x3 ⟨rfl, hb3⟩
  have hc3 : Below x2.heap.size x2 x3 := hb3
  have hB3 : Below w.heap.size w x3 := hB2.trans (hc3.mono hB2.size)
  have zu3 := hB3.size
  replace PB := Lib.hid (PB.out.below hc3)
  replace RB := Lib.hid (RB.out.below hc3)
  replace TB := Lib.hid (TB.out.below hc3)
  clear PB_2_0 PB_2_1 PB_2_2 PB_2_3 lPB_2 nPB_2 mPB_2 RB_2_0 RB_2_1 RB_2_2 RB_2_3 RB_2_4 RB_2_5 RB_2_6 RB_2_7 RB_2_8 lRB_2 nRB_2 mRB_2 TB_2_0 TB_2_1 lTB_2 nTB_2 mTB_2
  clear hb3 hB2 zu2 hc2
  obtain ⟨PB_3_0, PB_3_1, PB_3_2, PB_3_3⟩ := b4 PB.out
  have lPB_3 := PB.out.lt
  have nPB_3 : x3.heap.size ≠ w.heap.size := by omega
  have mPB_3 : w.heap.size ≠ x3.heap.size := by omega
  obtain ⟨RB_3_0, RB_3_1, RB_3_2, RB_3_3, RB_3_4, RB_3_5, RB_3_6, RB_3_7, RB_3_8⟩ := b9 RB.out
  have lRB_3 := RB.out.lt
  have nRB_3 : x3.heap.size ≠ w.heap.size + 1 := by omega
  have mRB_3 : w.heap.size + 1 ≠ x3.heap.size := by omega
  obtain ⟨TB_3_0, TB_3_1⟩ := b2 TB.out
  have lTB_3 := TB.out.lt
  have nTB_3 : x3.heap.size ≠ w.heap.size + 1 + 1 := by omega
  have mTB_3 : w.heap.size + 1 + 1 ≠ x3.heap.size := by omega
  go_wp2_with fail
  refine (refBoth_any nm s G D A B gn gc dn dc T r AT tn tc N 0 0 0 _ hz6 hgn hgl hdn hdl (Lib.hid (hG.out.below (by (repeat (first | (with_reducible refine Below.drew ?_) | (with_reducible refine below_drewN ?_ _) | (with_reducible refine Below.alloc ?_ (by first | omega | (simp; done) | (simp; omega) | (simp at *; omega)) _) | (with_reducible refine Below.setCell ?_ (by first | omega | (simp; done) | (simp; omega) | (simp at *; omega)) _) | (with_reducible exact Below.refl _ _) | (with_reducible assumption) | (with_reducible refine Below.trans ?_ (Below.mono (by assumption) (by first | omega | (simp; done) | (simp; omega) | (simp at *; omega))))))))) (Lib.hid (hD.out.below (by (repeat (first | (with_reducible refine Below.drew ?_) | (with_reducible refine below_drewN ?_ _) | (with_reducible refine Below.alloc ?_ (by first | omega | (simp; done) | (simp; omega) | (simp at *; omega)) _) | (with_reducible refine Below.setCell ?_ (by first | omega | (simp; done) | (simp; omega) | (simp at *; omega)) _) | (with_reducible exact Below.refl _ _) | (with_reducible assumption) | (with_reducible refine Below.trans ?_ (Below.mono (by assumption) (by first | omega | (simp; done) | (simp; omega) | (simp at *; omega))))))))) hE0 htn htl (Lib.hid (hT.out.below (by (repeat (first | (with_reducible refine Below.drew ?_) | (with_reducible refine below_drewN ?_ _) | (with_reducible refine Below.alloc ?_ (by first | omega | (simp; done) | (simp; omega) | (simp at *; omega)) _) | (with_reducible refine Below.setCell ?_ (by first | omega | (simp; done) | (simp; omega) | (simp at *; omega)) _) | (with_reducible exact Below.refl _ _) | (with_reducible assumption) | (with_reducible refine Below.trans ?_ (Below.mono (by assumption) (by first | omega | (simp; done) | (simp; omega) | (simp at *; omega))))))))) hE1 hE).mono ?_
  rintro e x4 ⟨rfl, hb4⟩
  have hc4 : Below x3.heap.size x3 x4 := hb4
  have hB4 : Below w.heap.size w x4 := hB3.trans (hc4.mono hB3.size)
  have zu4 := hB4.size
  replace PB := Lib.hid (PB.out.below hc4)
  replace RB := Lib.hid (RB.out.below hc4)
  replace TB := Lib.hid (TB.out.below hc4)
  clear PB_3_0 PB_3_1 PB_3_2 PB_3_3 lPB_3 nPB_3 mPB_3 RB_3_0 RB_3_1 RB_3_2 RB_3_3 RB_3_4 RB_3_5 RB_3_6 RB_3_7 RB_3_8 lRB_3 nRB_3 mRB_3 TB_3_0 TB_3_1 lTB_3 nTB_3 mTB_3
  clear hb4 hB3 zu3 hc3
  obtain ⟨PB_4_0, PB_4_1, PB_4_2, PB_4_3⟩ := b4 PB.out
  have lPB_4 := PB.out.lt
  have nPB_4 : x4.heap.size ≠ w.heap.size := by omega
  have mPB_4 : w.heap.size ≠ x4.heap.size := by omega
  obtain ⟨RB_4_0, RB_4_1, RB_4_2, RB_4_3, RB_4_4, RB_4_5, RB_4_6, RB_4_7, RB_4_8⟩ := b9 RB.out
  have lRB_4 := RB.out.lt
  have nRB_4 : x4.heap.size ≠ w.heap.size + 1 := by omega
  have mRB_4 : w.heap.size + 1 ≠ x4.heap.size := by omega
  obtain ⟨TB_4_0, TB_4_1⟩ := b2 TB.out
  have lTB_4 := TB.out.lt
  have nTB_4 : x4.heap.size ≠ w.heap.size + 1 + 1 := by omega
  have mTB_4 : w.heap.size + 1 + 1 ≠ x4.heap.size := by omega
  go_wp2_with fail
  refine (wB3 (k : Int) 0 ((dn : Int) - 1) true _ hi0).mono ?_
  rintro e x5 ⟨rfl, hb5⟩
  have hc5 : Below x4.heap.size x4 x5 := hb5
  have hB5 : Below w.heap.size w x5 := hB4.trans (hc5.mono hB4.size)
  have zu5 := hB5.size
  replace PB := Lib.hid (PB.out.below hc5)
  replace RB := Lib.hid (RB.out.below hc5)
  replace TB := Lib.hid (TB.out.below hc5)
  clear PB_4_0 PB_4_1 PB_4_2 PB_4_3 lPB_4 nPB_4 mPB_4 RB_4_0 RB_4_1 RB_4_2 RB_4_3 RB_4_4 RB_4_5 RB_4_6 RB_4_7 RB_4_8 lRB_4 nRB_4 mRB_4 TB_4_0 TB_4_1 lTB_4 nTB_4 mTB_4
  clear hb5 hB4 zu4 hc4
  obtain ⟨PB_5_0, PB_5_1, PB_5_2, PB_5_3⟩ := b4 PB.out
  have lPB_5 := PB.out.lt
  have nPB_5 : x5.heap.size ≠ w.heap.size := by omega
  have mPB_5 : w.heap.size ≠ x5.heap.size := by omega
  obtain ⟨RB_5_0, RB_5_1, RB_5_2, RB_5_3, RB_5_4, RB_5_5, RB_5_6, RB_5_7, RB_5_8⟩ := b9 RB.out
  have lRB_5 := RB.out.lt
  have nRB_5 : x5.heap.size ≠ w.heap.size + 1 := by omega
  have mRB_5 : w.heap.size + 1 ≠ x5.heap.size := by omega
  obtain ⟨TB_5_0, TB_5_1⟩ := b2 TB.out
  have lTB_5 := TB.out.lt
  have nTB_5 : x5.heap.size ≠ w.heap.size + 1 + 1 := by omega
  have mTB_5 : w.heap.size + 1 + 1 ≠ x5.heap.size := by omega
  go_wp2_with fail
  refine (wB3 a1 0 1000000 true _ hi1).mono ?_
  rintro e x6 ⟨rfl, hb6⟩
  have hc6 : Below x5.heap.size x5 x6 := hb6
  have hB6 : Below w.heap.size w x6 := hB5.trans (hc6.mono hB5.size)
  have zu6 := hB6.size
  replace PB := Lib.hid (PB.out.below hc6)
  replace RB := Lib.hid (RB.out.below hc6)
  replace TB := Lib.hid (TB.out.below hc6)
  clear PB_5_0 PB_5_1 PB_5_2 PB_5_3 lPB_5 nPB_5 mPB_5 RB_5_0 RB_5_1 RB_5_2 RB_5_3 RB_5_4 RB_5_5 RB_5_6 RB_5_7 RB_5_8 lRB_5 nRB_5 mRB_5 TB_5_0 TB_5_1 lTB_5 nTB_5 mTB_5
  clear hb6 hB5 zu5 hc5
  obtain ⟨PB_6_0, PB_6_1, PB_6_2, PB_6_3⟩ := b4 PB.out
  have lPB_6 := PB.out.lt
  have nPB_6 : x6.heap.size ≠ w.heap.size := by omega
  have mPB_6 : w.heap.size ≠ x6.heap.size := by omega
  obtain ⟨RB_6_0, RB_6_1, RB_6_2, RB_6_3, RB_6_4, RB_6_5, RB_6_6, RB_6_7, RB_6_8⟩ := b9 RB.out
  have lRB_6 := RB.out.lt
  have nRB_6 : x6.heap.size ≠ w.heap.size + 1 := by omega
  have mRB_6 : w.heap.size + 1 ≠ x6.heap.size := by omega
  obtain ⟨TB_6_0, TB_6_1⟩ := b2 TB.out
  have lTB_6 := TB.out.lt
  have nTB_6 : x6.heap.size ≠ w.heap.size + 1 + 1 := by omega
  have mTB_6 : w.heap.size + 1 + 1 ≠ x6.heap.size := by omega
  go_wp2_with fail
  refine (divided_bad nm s G D A B gn gc dn dc k a1 _ hz hgn hg6 hdn hd60 (Lib.hid (hG.out.below (by (repeat (first | (with_reducible refine Below.drew ?_) | (with_reducible refine below_drewN ?_ _) | (with_reducible refine Below.alloc ?_ (by first | omega | (simp; done) | (simp; omega) | (simp at *; omega)) _) | (with_reducible refine Below.setCell ?_ (by first | omega | (simp; done) | (simp; omega) | (simp at *; omega)) _) | (with_reducible exact Below.refl _ _) | (with_reducible assumption) | (with_reducible refine Below.trans ?_ (Below.mono (by assumption) (by first | omega | (simp; done) | (simp; omega) | (simp at *; omega))))))))) (Lib.hid (hD.out.below (by (repeat (first | (with_reducible refine Below.drew ?_) | (with_reducible refine below_drewN ?_ _) | (with_reducible refine Below.alloc ?_ (by first | omega | (simp; done) | (simp; omega) | (simp at *; omega)) _) | (with_reducible refine Below.setCell ?_ (by first | omega | (simp; done) | (simp; omega) | (simp at *; omega)) _) | (with_reducible exact Below.refl _ _) | (with_reducible assumption) | (with_reducible refine Below.trans ?_ (Below.mono (by assumption) (by first | omega | (simp; done) | (simp; omega) | (simp at *; omega))))))))) CG CD hok hk q0 q1 hbad.out).mono ?_
  rintro e x7 ⟨rfl, hb7⟩
  have hc7 : Below x6.heap.size x6 x7 := hb7
  have hB7 : Below w.heap.size w x7 := hB6.trans (hc7.mono hB6.size)
  have zu7 := hB7.size
  replace PB := Lib.hid (PB.out.below hc7)
  replace RB := Lib.hid (RB.out.below hc7)
  replace TB := Lib.hid (TB.out.below hc7)
  clear PB_6_0 PB_6_1 PB_6_2 PB_6_3 lPB_6 nPB_6 mPB_6 RB_6_0 RB_6_1 RB_6_2 RB_6_3 RB_6_4 RB_6_5 RB_6_6 RB_6_7 RB_6_8 lRB_6 nRB_6 mRB_6 TB_6_0 TB_6_1 lTB_6 nTB_6 mTB_6
  clear hb7 hB6 zu6 hc6
  obtain ⟨PB_7_0, PB_7_1, PB_7_2, PB_7_3⟩ := b4 PB.out
  have lPB_7 := PB.out.lt
  have nPB_7 : x7.heap.size ≠ w.heap.size := by omega
  have mPB_7 : w.heap.size ≠ x7.heap.size := by omega
  obtain ⟨RB_7_0, RB_7_1, RB_7_2, RB_7_3, RB_7_4, RB_7_5, RB_7_6, RB_7_7, RB_7_8⟩ := b9 RB.out
  have lRB_7 := RB.out.lt
  have nRB_7 : x7.heap.size ≠ w.heap.size + 1 := by omega
  have mRB_7 : w.heap.size + 1 ≠ x7.heap.size := by omega
  obtain ⟨TB_7_0, TB_7_1⟩ := b2 TB.out
  have lTB_7 := TB.out.lt
  have nTB_7 : x7.heap.size ≠ w.heap.size + 1 + 1 := by omega
  have mTB_7 : w.heap.size + 1 + 1 ≠ x7.heap.size := by omega
  go_wp2
  go_ret
  exact ⟨rfl, hB7.alloc hB7.size _⟩
set_option maxRecDepth 100000 in
set_option maxHeartbeats 8000000 in
theorem sp_good (nm : ByteArray) (s : Int) (G : List Ga) (D : List Le) (A B : Option Addr) (gn gc dn dc : Nat) (T : List Ox) (r : Ru) (AT : Option Addr) (tn tc : Nat) (a1 : Int) (N k : Nat) (L1 L2 : List Int) (u9 v9 t9 x9 y9 z9 : Int) (D9 : List Le) (w : World) (hz : nm.size ≤ 9223372036854775807) (hgn : Hid (gn = G.length)) (hgl : gn ≤ 9223372036854775807) (hdn : Hid (dn = D.length)) (hdl : dn ≤ 9223372036854775807) (hG : Hid (SlRows gaV 2 w A G)) (hD : Hid (SlRows leV 3 w B D)) (CG : Hid (A = none → gn = 0 ∧ gc = 0)) (CD : Hid (B = none → dn = 0 ∧ dc = 0)) (htn : Hid (tn = T.length)) (htl : tn ≤ 9223372036854775807) (hT : Hid (SlRows oxV 2 w AT T)) (CT : Hid (AT = none → tn = 0 ∧ tc = 0)) (hS : Hid (shortB nm.size dn gn = true)) (hF : Hid (fewB tn = true)) (hE0 : Hid (plnP nm s G D = (N, 0))) (hE1 : Hid (ruE T r = 0)) (hE : Hid (firE [0, 0] = 0)) (hi0 : Hid (inB (k : Int) 0 ((dn : Int) - 1) = true)) (hi1 : Hid (inB a1 0 1000000 = true)) (hk : k < dn) (hl9 : Hid (dn + 1 = D9.length)) (hDIV : Hid (∀ X : World, Hid (SlRows gaV 2 X A G) → Hid (SlRows leV 3 X B D) → Calls Try.prog 30 #[.agg #[.string nm, .int .i64 s, .slice A gn gc, .slice B dn dc], .int .i64 (k : Int), .int .i64 a1] X (DivP nm s G D9 gn dn true X))) (hE9 : Hid (plnP nm s G D9 = (0, 0))) (hC1 : Hid (((List.range dn).map fun j => clkX T (legK s G D j)) = L1)) (hC2 : Hid (((List.range (dn + 1)).map fun j => clkX T (legK s G D9 j)) = L2)) (hn1 : Hid (L1.length = dn)) (hn2 : Hid (L2.length = dn + 1)) (hx9 : (Hid (∀ (A : Option Addr) (ca : Nat) (B : Option Addr) (cb : Nat) (X : World), Hid (SlRows gaV 2 X A G) → Hid (SlRows leV 3 X B D) → Calls Try.prog 31 #[.agg #[.string nm, .int .i64 s, .slice A gn ca, .slice B dn cb], .int .i64 (k : Int), .int .i64 r.br] X fun e w' => e = .returned (.tuple #[.int .i64 x9, .int .i64 0]) ∧ Below X.heap.size X w'))) (hy9 : (Hid (∀ (A : Option Addr) (ca : Nat) (B : Option Addr) (cb : Nat) (X : World), Hid (SlRows gaV 2 X A G) → Hid (SlRows leV 3 X B D9) → Calls Try.prog 31 #[.agg #[.string nm, .int .i64 s, .slice A gn ca, .slice B (dn + 1) cb], .int .i64 (k : Int), .int .i64 r.br] X fun e w' => e = .returned (.tuple #[.int .i64 y9, .int .i64 0]) ∧ Below X.heap.size X w'))) (hz9 : (Hid (∀ (A : Option Addr) (ca : Nat) (B : Option Addr) (cb : Nat) (X : World), Hid (SlRows gaV 2 X A G) → Hid (SlRows leV 3 X B D9) → Calls Try.prog 31 #[.agg #[.string nm, .int .i64 s, .slice A gn ca, .slice B (dn + 1) cb], .int .i64 ((k : Int) + 1), .int .i64 r.br] X fun e w' => e = .returned (.tuple #[.int .i64 z9, .int .i64 0]) ∧ Below X.heap.size X w'))) (hu9 : Hid (L1.getD k 0 = u9)) (hv9 : Hid (L2.getD k 0 = v9)) (ht9 : Hid (L2.getD (k + 1) 0 = t9)) (hw1 : Hid (inB u9 0 1000000000000000 = true)) (hw2 : Hid (inB (v9 + t9) u9 (u9 + 1) = true)) (hw3 : Hid (inB x9 0 1000000000000000 = true)) (hw4 : Hid (inB (y9 + z9) x9 (x9 + 1) = true)) (wv : IntKind.i64.wrap (v9 + t9) = v9 + t9) (wu : IntKind.i64.wrap (u9 + 1) = u9 + 1) (wy : IntKind.i64.wrap (y9 + z9) = y9 + z9) (wx : IntKind.i64.wrap (x9 + 1) = x9 + 1) :
    Calls Try.prog 5 #[.agg #[.string nm, .int .i64 s, .slice A gn gc, .slice B dn dc], .agg #[.slice AT tn tc, .int .i64 r.a, .int .i64 r.b, .int .i64 r.nc, .int .i64 r.dn, .int .i64 r.br, .int .i64 r.em, .int .i64 r.pa, .int .i64 r.sc], .agg #[.int .i64 (k : Int), .int .i64 a1]] w fun e w' => e = .returned (.bool true) ∧ Below w.heap.size w w' := by
  have wk1 : IntKind.i64.wrap ((k : Int) + 1) = (k : Int) + 1 := IntWalk.i64_in _ (by omega)
  have kz0 : ¬ (k : Int) < 0 := by omega
  have kz1 : (k : Int) < (dn : Int) := by omega
  have kz2 : (k : Int) < (dn : Int) + 1 := by omega
  have kz3 : (k : Int) + 1 < (dn : Int) + 1 := by omega
  have kz4 : ¬ (k : Int) + 1 < 0 := by omega
  have kz5 : 0 ≤ (k : Int) + 1 := by omega
  have tk1 : ((k : Int) + 1).toNat = k + 1 := by omega
  have hsb := shortB_le hS.out
  have hz6 : nm.size ≤ 1000000 := by omega
  have hg6 : gn ≤ 1000000 := by omega
  have hd6 : dn ≤ 1000000 := by omega
  have ht22 : tn ≤ 22 := fewB_le hF.out
  have ht6 : tn ≤ 1000000 := by omega
  have wd1 : IntKind.i64.wrap ((dn : Int) - 1) = (dn : Int) - 1 := IntWalk.i64_in _ (by omega)
  go_enter Try.func5, Try.ntmps5
  go_wp2_with fail
  refine (awake_any _).mono ?_
  rintro e x1 ⟨rfl, hb1⟩
  have hc1 : Below w.heap.size w x1 := ((((Below.refl _ _).alloc (by first | exact Nat.le_refl _ | (simp; done) | (simp; omega)) _).alloc (by first | exact Nat.le_refl _ | (simp; done) | (simp; omega)) _).alloc (by first | exact Nat.le_refl _ | (simp; done) | (simp; omega)) _).trans (hb1.mono (by first | exact Nat.le_refl _ | (simp; done) | (simp; omega)))
  have hB1 : Below w.heap.size w x1 := hc1
  have zu1 := hB1.size
  have PB : Hid (BlkF x1 w.heap.size (w.heap.size) [.string nm, .int .i64 s, .slice A gn gc, .slice B dn dc]) := Lib.hid ((((BlkF.made (B := w.heap.size) w [.string nm, .int .i64 s, .slice A gn gc, .slice B dn dc] 40 (by first | exact Nat.le_refl _ | (simp; done) | (simp; omega))).below ((Below.refl _ _).alloc (Nat.le_refl _) _)).below ((Below.refl _ _).alloc (Nat.le_refl _) _)).below hb1)
  have zPB1 := PB.out.lt
  have RB : Hid (BlkF x1 w.heap.size (w.heap.size + 1) [.slice AT tn tc, .int .i64 r.a, .int .i64 r.b, .int .i64 r.nc, .int .i64 r.dn, .int .i64 r.br, .int .i64 r.em, .int .i64 r.pa, .int .i64 r.sc]) := Lib.hid (by have := ((BlkF.made (B := w.heap.size) (w.alloc (.cells #[.string nm, .int .i64 s, .slice A gn gc, .slice B dn dc] 40)) [.slice AT tn tc, .int .i64 r.a, .int .i64 r.b, .int .i64 r.nc, .int .i64 r.dn, .int .i64 r.br, .int .i64 r.em, .int .i64 r.pa, .int .i64 r.sc] 26 (by first | exact Nat.le_refl _ | (simp; done) | (simp; omega))).below ((Below.refl _ _).alloc (Nat.le_refl _) _)).below hb1; simpa using this)
  have zRB1 := RB.out.lt
  have TB : Hid (BlkF x1 w.heap.size (w.heap.size + 1 + 1) [.int .i64 (k : Int), .int .i64 a1]) := Lib.hid (by have := (BlkF.made (B := w.heap.size) ((w.alloc (.cells #[.string nm, .int .i64 s, .slice A gn gc, .slice B dn dc] 40)).alloc (.cells #[.slice AT tn tc, .int .i64 r.a, .int .i64 r.b, .int .i64 r.nc, .int .i64 r.dn, .int .i64 r.br, .int .i64 r.em, .int .i64 r.pa, .int .i64 r.sc] 26)) [.int .i64 (k : Int), .int .i64 a1] 55 (by first | exact Nat.le_refl _ | (simp; done) | (simp; omega))).below hb1; simpa using this)
  have zTB1 := TB.out.lt
  clear hb1
  obtain ⟨PB_1_0, PB_1_1, PB_1_2, PB_1_3⟩ := b4 PB.out
  have lPB_1 := PB.out.lt
  have nPB_1 : x1.heap.size ≠ w.heap.size := by omega
  have mPB_1 : w.heap.size ≠ x1.heap.size := by omega
  obtain ⟨RB_1_0, RB_1_1, RB_1_2, RB_1_3, RB_1_4, RB_1_5, RB_1_6, RB_1_7, RB_1_8⟩ := b9 RB.out
  have lRB_1 := RB.out.lt
  have nRB_1 : x1.heap.size ≠ w.heap.size + 1 := by omega
  have mRB_1 : w.heap.size + 1 ≠ x1.heap.size := by omega
  obtain ⟨TB_1_0, TB_1_1⟩ := b2 TB.out
  have lTB_1 := TB.out.lt
  have nTB_1 : x1.heap.size ≠ w.heap.size + 1 + 1 := by omega
  have mTB_1 : w.heap.size + 1 + 1 ≠ x1.heap.size := by omega
  go_wp2_with fail
  refine (Short_is nm s G D A B gn gc dn dc true _ hz hgl hdl hS).mono ?_
  rintro e x2 ⟨rfl, hb2⟩
  have hc2 : Below x1.heap.size x1 x2 := hb2
  have hB2 : Below w.heap.size w x2 := hB1.trans (hc2.mono hB1.size)
  have zu2 := hB2.size
  replace PB := Lib.hid (PB.out.below hc2)
  replace RB := Lib.hid (RB.out.below hc2)
  replace TB := Lib.hid (TB.out.below hc2)
  clear PB_1_0 PB_1_1 PB_1_2 PB_1_3 lPB_1 nPB_1 mPB_1 RB_1_0 RB_1_1 RB_1_2 RB_1_3 RB_1_4 RB_1_5 RB_1_6 RB_1_7 RB_1_8 lRB_1 nRB_1 mRB_1 TB_1_0 TB_1_1 lTB_1 nTB_1 mTB_1
  clear hb2 hB1 zu1 hc1
  obtain ⟨PB_2_0, PB_2_1, PB_2_2, PB_2_3⟩ := b4 PB.out
  have lPB_2 := PB.out.lt
  have nPB_2 : x2.heap.size ≠ w.heap.size := by omega
  have mPB_2 : w.heap.size ≠ x2.heap.size := by omega
  obtain ⟨RB_2_0, RB_2_1, RB_2_2, RB_2_3, RB_2_4, RB_2_5, RB_2_6, RB_2_7, RB_2_8⟩ := b9 RB.out
  have lRB_2 := RB.out.lt
  have nRB_2 : x2.heap.size ≠ w.heap.size + 1 := by omega
  have mRB_2 : w.heap.size + 1 ≠ x2.heap.size := by omega
  obtain ⟨TB_2_0, TB_2_1⟩ := b2 TB.out
  have lTB_2 := TB.out.lt
  have nTB_2 : x2.heap.size ≠ w.heap.size + 1 + 1 := by omega
  have mTB_2 : w.heap.size + 1 + 1 ≠ x2.heap.size := by omega
  go_wp2_with fail
  refine (few_is r AT tn tc true _ htl hF).mono ?_
  rintro e x3 ⟨rfl, hb3⟩
  have hc3 : Below x2.heap.size x2 x3 := hb3
  have hB3 : Below w.heap.size w x3 := hB2.trans (hc3.mono hB2.size)
  have zu3 := hB3.size
  replace PB := Lib.hid (PB.out.below hc3)
  replace RB := Lib.hid (RB.out.below hc3)
  replace TB := Lib.hid (TB.out.below hc3)
  clear PB_2_0 PB_2_1 PB_2_2 PB_2_3 lPB_2 nPB_2 mPB_2 RB_2_0 RB_2_1 RB_2_2 RB_2_3 RB_2_4 RB_2_5 RB_2_6 RB_2_7 RB_2_8 lRB_2 nRB_2 mRB_2 TB_2_0 TB_2_1 lTB_2 nTB_2 mTB_2
  clear hb3 hB2 zu2 hc2
  obtain ⟨PB_3_0, PB_3_1, PB_3_2, PB_3_3⟩ := b4 PB.out
  have lPB_3 := PB.out.lt
  have nPB_3 : x3.heap.size ≠ w.heap.size := by omega
  have mPB_3 : w.heap.size ≠ x3.heap.size := by omega
  obtain ⟨RB_3_0, RB_3_1, RB_3_2, RB_3_3, RB_3_4, RB_3_5, RB_3_6, RB_3_7, RB_3_8⟩ := b9 RB.out
  have lRB_3 := RB.out.lt
  have nRB_3 : x3.heap.size ≠ w.heap.size + 1 := by omega
  have mRB_3 : w.heap.size + 1 ≠ x3.heap.size := by omega
  obtain ⟨TB_3_0, TB_3_1⟩ := b2 TB.out
  have lTB_3 := TB.out.lt
  have nTB_3 : x3.heap.size ≠ w.heap.size + 1 + 1 := by omega
  have mTB_3 : w.heap.size + 1 + 1 ≠ x3.heap.size := by omega
  go_wp2_with fail
  refine (refBoth_any nm s G D A B gn gc dn dc T r AT tn tc N 0 0 0 _ hz6 hgn hgl hdn hdl (Lib.hid (hG.out.below (by (repeat (first | (with_reducible refine Below.drew ?_) | (with_reducible refine below_drewN ?_ _) | (with_reducible refine Below.alloc ?_ (by first | omega | (simp; done) | (simp; omega) | (simp at *; omega)) _) | (with_reducible refine Below.setCell ?_ (by first | omega | (simp; done) | (simp; omega) | (simp at *; omega)) _) | (with_reducible exact Below.refl _ _) | (with_reducible assumption) | (with_reducible refine Below.trans ?_ (Below.mono (by assumption) (by first | omega | (simp; done) | (simp; omega) | (simp at *; omega))))))))) (Lib.hid (hD.out.below (by (repeat (first | (with_reducible refine Below.drew ?_) | (with_reducible refine below_drewN ?_ _) | (with_reducible refine Below.alloc ?_ (by first | omega | (simp; done) | (simp; omega) | (simp at *; omega)) _) | (with_reducible refine Below.setCell ?_ (by first | omega | (simp; done) | (simp; omega) | (simp at *; omega)) _) | (with_reducible exact Below.refl _ _) | (with_reducible assumption) | (with_reducible refine Below.trans ?_ (Below.mono (by assumption) (by first | omega | (simp; done) | (simp; omega) | (simp at *; omega))))))))) hE0 htn htl (Lib.hid (hT.out.below (by (repeat (first | (with_reducible refine Below.drew ?_) | (with_reducible refine below_drewN ?_ _) | (with_reducible refine Below.alloc ?_ (by first | omega | (simp; done) | (simp; omega) | (simp at *; omega)) _) | (with_reducible refine Below.setCell ?_ (by first | omega | (simp; done) | (simp; omega) | (simp at *; omega)) _) | (with_reducible exact Below.refl _ _) | (with_reducible assumption) | (with_reducible refine Below.trans ?_ (Below.mono (by assumption) (by first | omega | (simp; done) | (simp; omega) | (simp at *; omega))))))))) hE1 hE).mono ?_
  rintro e x4 ⟨rfl, hb4⟩
  have hc4 : Below x3.heap.size x3 x4 := hb4
  have hB4 : Below w.heap.size w x4 := hB3.trans (hc4.mono hB3.size)
  have zu4 := hB4.size
  replace PB := Lib.hid (PB.out.below hc4)
  replace RB := Lib.hid (RB.out.below hc4)
  replace TB := Lib.hid (TB.out.below hc4)
  clear PB_3_0 PB_3_1 PB_3_2 PB_3_3 lPB_3 nPB_3 mPB_3 RB_3_0 RB_3_1 RB_3_2 RB_3_3 RB_3_4 RB_3_5 RB_3_6 RB_3_7 RB_3_8 lRB_3 nRB_3 mRB_3 TB_3_0 TB_3_1 lTB_3 nTB_3 mTB_3
  clear hb4 hB3 zu3 hc3
  obtain ⟨PB_4_0, PB_4_1, PB_4_2, PB_4_3⟩ := b4 PB.out
  have lPB_4 := PB.out.lt
  have nPB_4 : x4.heap.size ≠ w.heap.size := by omega
  have mPB_4 : w.heap.size ≠ x4.heap.size := by omega
  obtain ⟨RB_4_0, RB_4_1, RB_4_2, RB_4_3, RB_4_4, RB_4_5, RB_4_6, RB_4_7, RB_4_8⟩ := b9 RB.out
  have lRB_4 := RB.out.lt
  have nRB_4 : x4.heap.size ≠ w.heap.size + 1 := by omega
  have mRB_4 : w.heap.size + 1 ≠ x4.heap.size := by omega
  obtain ⟨TB_4_0, TB_4_1⟩ := b2 TB.out
  have lTB_4 := TB.out.lt
  have nTB_4 : x4.heap.size ≠ w.heap.size + 1 + 1 := by omega
  have mTB_4 : w.heap.size + 1 + 1 ≠ x4.heap.size := by omega
  go_wp2_with fail
  refine (wB3 (k : Int) 0 ((dn : Int) - 1) true _ hi0).mono ?_
  rintro e x5 ⟨rfl, hb5⟩
  have hc5 : Below x4.heap.size x4 x5 := hb5
  have hB5 : Below w.heap.size w x5 := hB4.trans (hc5.mono hB4.size)
  have zu5 := hB5.size
  replace PB := Lib.hid (PB.out.below hc5)
  replace RB := Lib.hid (RB.out.below hc5)
  replace TB := Lib.hid (TB.out.below hc5)
  clear PB_4_0 PB_4_1 PB_4_2 PB_4_3 lPB_4 nPB_4 mPB_4 RB_4_0 RB_4_1 RB_4_2 RB_4_3 RB_4_4 RB_4_5 RB_4_6 RB_4_7 RB_4_8 lRB_4 nRB_4 mRB_4 TB_4_0 TB_4_1 lTB_4 nTB_4 mTB_4
  clear hb5 hB4 zu4 hc4
  obtain ⟨PB_5_0, PB_5_1, PB_5_2, PB_5_3⟩ := b4 PB.out
  have lPB_5 := PB.out.lt
  have nPB_5 : x5.heap.size ≠ w.heap.size := by omega
  have mPB_5 : w.heap.size ≠ x5.heap.size := by omega
  obtain ⟨RB_5_0, RB_5_1, RB_5_2, RB_5_3, RB_5_4, RB_5_5, RB_5_6, RB_5_7, RB_5_8⟩ := b9 RB.out
  have lRB_5 := RB.out.lt
  have nRB_5 : x5.heap.size ≠ w.heap.size + 1 := by omega
  have mRB_5 : w.heap.size + 1 ≠ x5.heap.size := by omega
  obtain ⟨TB_5_0, TB_5_1⟩ := b2 TB.out
  have lTB_5 := TB.out.lt
  have nTB_5 : x5.heap.size ≠ w.heap.size + 1 + 1 := by omega
  have mTB_5 : w.heap.size + 1 + 1 ≠ x5.heap.size := by omega
  go_wp2_with fail
  refine (wB3 a1 0 1000000 true _ hi1).mono ?_
  rintro e x6 ⟨rfl, hb6⟩
  have hc6 : Below x5.heap.size x5 x6 := hb6
  have hB6 : Below w.heap.size w x6 := hB5.trans (hc6.mono hB5.size)
  have zu6 := hB6.size
  replace PB := Lib.hid (PB.out.below hc6)
  replace RB := Lib.hid (RB.out.below hc6)
  replace TB := Lib.hid (TB.out.below hc6)
  clear PB_5_0 PB_5_1 PB_5_2 PB_5_3 lPB_5 nPB_5 mPB_5 RB_5_0 RB_5_1 RB_5_2 RB_5_3 RB_5_4 RB_5_5 RB_5_6 RB_5_7 RB_5_8 lRB_5 nRB_5 mRB_5 TB_5_0 TB_5_1 lTB_5 nTB_5 mTB_5
  clear hb6 hB5 zu5 hc5
  obtain ⟨PB_6_0, PB_6_1, PB_6_2, PB_6_3⟩ := b4 PB.out
  have lPB_6 := PB.out.lt
  have nPB_6 : x6.heap.size ≠ w.heap.size := by omega
  have mPB_6 : w.heap.size ≠ x6.heap.size := by omega
  obtain ⟨RB_6_0, RB_6_1, RB_6_2, RB_6_3, RB_6_4, RB_6_5, RB_6_6, RB_6_7, RB_6_8⟩ := b9 RB.out
  have lRB_6 := RB.out.lt
  have nRB_6 : x6.heap.size ≠ w.heap.size + 1 := by omega
  have mRB_6 : w.heap.size + 1 ≠ x6.heap.size := by omega
  obtain ⟨TB_6_0, TB_6_1⟩ := b2 TB.out
  have lTB_6 := TB.out.lt
  have nTB_6 : x6.heap.size ≠ w.heap.size + 1 + 1 := by omega
  have mTB_6 : w.heap.size + 1 + 1 ≠ x6.heap.size := by omega
  go_wp2_with fail
  refine (hDIV.out _ (Lib.hid (hG.out.below (by (repeat (first | (with_reducible refine Below.drew ?_) | (with_reducible refine below_drewN ?_ _) | (with_reducible refine Below.alloc ?_ (by first | omega | (simp; done) | (simp; omega) | (simp at *; omega)) _) | (with_reducible refine Below.setCell ?_ (by first | omega | (simp; done) | (simp; omega) | (simp at *; omega)) _) | (with_reducible exact Below.refl _ _) | (with_reducible assumption) | (with_reducible refine Below.trans ?_ (Below.mono (by assumption) (by first | omega | (simp; done) | (simp; omega) | (simp at *; omega))))))))) (Lib.hid (hD.out.below (by (repeat (first | (with_reducible refine Below.drew ?_) | (with_reducible refine below_drewN ?_ _) | (with_reducible refine Below.alloc ?_ (by first | omega | (simp; done) | (simp; omega) | (simp at *; omega)) _) | (with_reducible refine Below.setCell ?_ (by first | omega | (simp; done) | (simp; omega) | (simp at *; omega)) _) | (with_reducible exact Below.refl _ _) | (with_reducible assumption) | (with_reducible refine Below.trans ?_ (Below.mono (by assumption) (by first | omega | (simp; done) | (simp; omega) | (simp at *; omega)))))))))).mono ?_
  rintro e x7 ⟨A9, ca, B8, cb, rfl, hsg, hsl, hna, hnb, hb7⟩
  have hc7 : Below x6.heap.size x6 x7 := hb7
  have hB7 : Below w.heap.size w x7 := hB6.trans (hc7.mono hB6.size)
  have zu7 := hB7.size
  replace PB := Lib.hid (PB.out.below hc7)
  replace RB := Lib.hid (RB.out.below hc7)
  replace TB := Lib.hid (TB.out.below hc7)
  have HG9 := Lib.hid hsg
  have HL9 := Lib.hid hsl
  have CG9 : Hid (A9 = none → gn = 0 ∧ ca = 0) := Lib.hid (nilCap9 hsg hgn.out hna)
  have CL9 : Hid (B8 = none → dn + 1 = 0 ∧ cb = 0) := Lib.hid (nilCap9 hsl hl9.out hnb)
  clear hsg hsl hna hnb
  clear PB_6_0 PB_6_1 PB_6_2 PB_6_3 lPB_6 nPB_6 mPB_6 RB_6_0 RB_6_1 RB_6_2 RB_6_3 RB_6_4 RB_6_5 RB_6_6 RB_6_7 RB_6_8 lRB_6 nRB_6 mRB_6 TB_6_0 TB_6_1 lTB_6 nTB_6 mTB_6
  clear hb7 hB6 zu6 hc6
  obtain ⟨PB_7_0, PB_7_1, PB_7_2, PB_7_3⟩ := b4 PB.out
  have lPB_7 := PB.out.lt
  have nPB_7 : x7.heap.size ≠ w.heap.size := by omega
  have mPB_7 : w.heap.size ≠ x7.heap.size := by omega
  obtain ⟨RB_7_0, RB_7_1, RB_7_2, RB_7_3, RB_7_4, RB_7_5, RB_7_6, RB_7_7, RB_7_8⟩ := b9 RB.out
  have lRB_7 := RB.out.lt
  have nRB_7 : x7.heap.size ≠ w.heap.size + 1 := by omega
  have mRB_7 : w.heap.size + 1 ≠ x7.heap.size := by omega
  obtain ⟨TB_7_0, TB_7_1⟩ := b2 TB.out
  have lTB_7 := TB.out.lt
  have nTB_7 : x7.heap.size ≠ w.heap.size + 1 + 1 := by omega
  have mTB_7 : w.heap.size + 1 + 1 ≠ x7.heap.size := by omega
  go_upto_region 8 with (fail)
  refine wp_worldE (fun u => Below x7.heap.size x7 u ∧ BlkF u w.heap.size (x7.heap.size) [.string nm, .int .i64 s, .slice A9 gn ca, .slice B8 (dn + 1) cb]) ⟨(Below.refl _ _).alloc (by first | exact Nat.le_refl _ | (simp; done) | (simp; omega)) _, BlkF.made (B := w.heap.size) x7 [.string nm, .int .i64 s, .slice A9 gn ca, .slice B8 (dn + 1) cb] 40 (by first | exact Nat.le_refl _ | exact hB7.size | (simp; done) | (simp; omega))⟩ (fun x8 hu8 => ?_)
  obtain ⟨hc8, qQB⟩ := hu8
  have QB := Lib.hid qQB
  clear qQB
  have hB8 : Below w.heap.size w x8 := hB7.trans (hc8.mono hB7.size)
  have zu8 := hB8.size
  replace HG9 := Lib.hid (HG9.out.below hc8)
  replace HL9 := Lib.hid (HL9.out.below hc8)
  replace PB := Lib.hid (PB.out.below hc8)
  replace RB := Lib.hid (RB.out.below hc8)
  replace TB := Lib.hid (TB.out.below hc8)
  clear PB_7_0 PB_7_1 PB_7_2 PB_7_3 lPB_7 nPB_7 mPB_7 RB_7_0 RB_7_1 RB_7_2 RB_7_3 RB_7_4 RB_7_5 RB_7_6 RB_7_7 RB_7_8 lRB_7 nRB_7 mRB_7 TB_7_0 TB_7_1 lTB_7 nTB_7 mTB_7
  clear hB7 zu7 hc7
  obtain ⟨PB_8_0, PB_8_1, PB_8_2, PB_8_3⟩ := b4 PB.out
  have lPB_8 := PB.out.lt
  have nPB_8 : x8.heap.size ≠ w.heap.size := by omega
  have mPB_8 : w.heap.size ≠ x8.heap.size := by omega
  obtain ⟨RB_8_0, RB_8_1, RB_8_2, RB_8_3, RB_8_4, RB_8_5, RB_8_6, RB_8_7, RB_8_8⟩ := b9 RB.out
  have lRB_8 := RB.out.lt
  have nRB_8 : x8.heap.size ≠ w.heap.size + 1 := by omega
  have mRB_8 : w.heap.size + 1 ≠ x8.heap.size := by omega
  obtain ⟨TB_8_0, TB_8_1⟩ := b2 TB.out
  have lTB_8 := TB.out.lt
  have nTB_8 : x8.heap.size ≠ w.heap.size + 1 + 1 := by omega
  have mTB_8 : w.heap.size + 1 + 1 ≠ x8.heap.size := by omega
  obtain ⟨QB_8_0, QB_8_1, QB_8_2, QB_8_3⟩ := b4 QB.out
  have lQB_8 := QB.out.lt
  have nQB_8 : x8.heap.size ≠ x7.heap.size := by omega
  have mQB_8 : x7.heap.size ≠ x8.heap.size := by omega
  have HS : Hid (∀ y, Below x8.heap.size x8 y → y.cell? ⟨w.heap.size, 0, none⟩ = some (.string nm) ∧ y.cell? ⟨w.heap.size, 1, none⟩ = some (.int .i64 s) ∧ y.cell? ⟨w.heap.size, 2, none⟩ = some (.slice A gn gc) ∧ y.cell? ⟨w.heap.size, 3, none⟩ = some (.slice B dn dc) ∧ y.cell? ⟨w.heap.size + 1, 0, none⟩ = some (.slice AT tn tc) ∧ y.cell? ⟨w.heap.size + 1, 1, none⟩ = some (.int .i64 r.a) ∧ y.cell? ⟨w.heap.size + 1, 2, none⟩ = some (.int .i64 r.b) ∧ y.cell? ⟨w.heap.size + 1, 3, none⟩ = some (.int .i64 r.nc) ∧ y.cell? ⟨w.heap.size + 1, 4, none⟩ = some (.int .i64 r.dn) ∧ y.cell? ⟨w.heap.size + 1, 5, none⟩ = some (.int .i64 r.br) ∧ y.cell? ⟨w.heap.size + 1, 6, none⟩ = some (.int .i64 r.em) ∧ y.cell? ⟨w.heap.size + 1, 7, none⟩ = some (.int .i64 r.pa) ∧ y.cell? ⟨w.heap.size + 1, 8, none⟩ = some (.int .i64 r.sc) ∧ y.cell? ⟨w.heap.size + 1 + 1, 0, none⟩ = some (.int .i64 (k : Int)) ∧ y.cell? ⟨w.heap.size + 1 + 1, 1, none⟩ = some (.int .i64 a1) ∧ y.cell? ⟨x7.heap.size, 0, none⟩ = some (.string nm) ∧ y.cell? ⟨x7.heap.size, 1, none⟩ = some (.int .i64 s) ∧ y.cell? ⟨x7.heap.size, 2, none⟩ = some (.slice A9 gn ca) ∧ y.cell? ⟨x7.heap.size, 3, none⟩ = some (.slice B8 (dn + 1) cb)) := Lib.hid fun y hy => ⟨(hy.cell (p := ⟨w.heap.size, 0, none⟩) lPB_8).trans PB_8_0, (hy.cell (p := ⟨w.heap.size, 1, none⟩) lPB_8).trans PB_8_1, (hy.cell (p := ⟨w.heap.size, 2, none⟩) lPB_8).trans PB_8_2, (hy.cell (p := ⟨w.heap.size, 3, none⟩) lPB_8).trans PB_8_3, (hy.cell (p := ⟨w.heap.size + 1, 0, none⟩) lRB_8).trans RB_8_0, (hy.cell (p := ⟨w.heap.size + 1, 1, none⟩) lRB_8).trans RB_8_1, (hy.cell (p := ⟨w.heap.size + 1, 2, none⟩) lRB_8).trans RB_8_2, (hy.cell (p := ⟨w.heap.size + 1, 3, none⟩) lRB_8).trans RB_8_3, (hy.cell (p := ⟨w.heap.size + 1, 4, none⟩) lRB_8).trans RB_8_4, (hy.cell (p := ⟨w.heap.size + 1, 5, none⟩) lRB_8).trans RB_8_5, (hy.cell (p := ⟨w.heap.size + 1, 6, none⟩) lRB_8).trans RB_8_6, (hy.cell (p := ⟨w.heap.size + 1, 7, none⟩) lRB_8).trans RB_8_7, (hy.cell (p := ⟨w.heap.size + 1, 8, none⟩) lRB_8).trans RB_8_8, (hy.cell (p := ⟨w.heap.size + 1 + 1, 0, none⟩) lTB_8).trans TB_8_0, (hy.cell (p := ⟨w.heap.size + 1 + 1, 1, none⟩) lTB_8).trans TB_8_1, (hy.cell (p := ⟨x7.heap.size, 0, none⟩) lQB_8).trans QB_8_0, (hy.cell (p := ⟨x7.heap.size, 1, none⟩) lQB_8).trans QB_8_1, (hy.cell (p := ⟨x7.heap.size, 2, none⟩) lQB_8).trans QB_8_2, (hy.cell (p := ⟨x7.heap.size, 3, none⟩) lQB_8).trans QB_8_3⟩
  refine wp_region_held_drew (S := (fun w' => w'.cell? ⟨w.heap.size, 0, none⟩ = some (.string nm) ∧ w'.cell? ⟨w.heap.size, 1, none⟩ = some (.int .i64 s) ∧ w'.cell? ⟨w.heap.size, 2, none⟩ = some (.slice A gn gc) ∧ w'.cell? ⟨w.heap.size, 3, none⟩ = some (.slice B dn dc) ∧ w'.cell? ⟨w.heap.size + 1, 0, none⟩ = some (.slice AT tn tc) ∧ w'.cell? ⟨w.heap.size + 1, 1, none⟩ = some (.int .i64 r.a) ∧ w'.cell? ⟨w.heap.size + 1, 2, none⟩ = some (.int .i64 r.b) ∧ w'.cell? ⟨w.heap.size + 1, 3, none⟩ = some (.int .i64 r.nc) ∧ w'.cell? ⟨w.heap.size + 1, 4, none⟩ = some (.int .i64 r.dn) ∧ w'.cell? ⟨w.heap.size + 1, 5, none⟩ = some (.int .i64 r.br) ∧ w'.cell? ⟨w.heap.size + 1, 6, none⟩ = some (.int .i64 r.em) ∧ w'.cell? ⟨w.heap.size + 1, 7, none⟩ = some (.int .i64 r.pa) ∧ w'.cell? ⟨w.heap.size + 1, 8, none⟩ = some (.int .i64 r.sc) ∧ w'.cell? ⟨w.heap.size + 1 + 1, 0, none⟩ = some (.int .i64 (k : Int)) ∧ w'.cell? ⟨w.heap.size + 1 + 1, 1, none⟩ = some (.int .i64 a1) ∧ w'.cell? ⟨x7.heap.size, 0, none⟩ = some (.string nm) ∧ w'.cell? ⟨x7.heap.size, 1, none⟩ = some (.int .i64 s) ∧ w'.cell? ⟨x7.heap.size, 2, none⟩ = some (.slice A9 gn ca) ∧ w'.cell? ⟨x7.heap.size, 3, none⟩ = some (.slice B8 (dn + 1) cb))) (by kernel_rfl) (HS.out _ (Below.refl _ _).drew) (fun hHeld => ?_)
  have hT0 : Below x8.heap.size x8 x8.drew := (Below.refl _ _).drew
  replace HG9 := Lib.hid (HG9.out.below (Below.refl x8.heap.size x8).drew)
  replace HL9 := Lib.hid (HL9.out.below (Below.refl x8.heap.size x8).drew)
  generalize hdr : x8.drew = y8v0 at *
  clear hdr
  refine tkH 0 ⟨some 65, _, _, _, _, _⟩ ?_ rfl ?_ (by assumption) ?_
  rotate_left
  · (intro w hSw; (try dsimp only at hSw); go_simp; all_goals with_reducible rfl)
  try simp only [Act.put, sA, sB, sC]
  refine tkH 2 ⟨some 67, _, _, _, _, _⟩ ?_ rfl ?_ (by assumption) ?_
  rotate_left
  · (intro w hSw; (try dsimp only at hSw); go_simp; all_goals with_reducible rfl)
  try simp only [Act.put, sA, sB, sC]
  refine wpAnyH_ready (rs := [1]) (by kernel_rfl) (by simp) ?_
  refine AllReadyH.cons rfl (fun K hK => ?_) (AllReadyH.nil)
  go_simp
  refine (copyP_is nm s G D A B gn gc dn dc _ hgn hdn hg6 hd6 (Lib.hid (hG.out.below (hB8.trans (hT0.mono hB8.size)))) (Lib.hid (hD.out.below (hB8.trans (hT0.mono hB8.size)))) CG CD).mono ?_
  rintro e y8v1 ⟨A1, ca1, B1, cb1, rfl, hsg, hsd, hna, hnb, hby8v0⟩
  have hT1 : Below x8.heap.size x8 y8v1 := hT0.trans (hby8v0.mono hT0.size)
  replace HG9 := Lib.hid (HG9.out.below hby8v0)
  replace HL9 := Lib.hid (HL9.out.below hby8v0)
  have HG1 := Lib.hid hsg
  have HD1 := Lib.hid hsd
  clear hsg hsd hna hnb
  clear hby8v0
  go_wp2_with fail
  refine hK.out _ _ (HS.out _ hT1) (fun hHeld => ?_)
  clear hK K
  try simp only [Act.put, sA, sB, sC]
  refine wpAnyH_ready (rs := [3]) (by kernel_rfl) (by simp) ?_
  refine AllReadyH.cons rfl (fun K hK => ?_) (AllReadyH.nil)
  go_simp
  refine (copyR_is T r AT tn tc _ htn ht6 (Lib.hid (hT.out.below (hB8.trans (hT1.mono hB8.size)))) CT).mono ?_
  rintro e y8v2 ⟨AT1, ct1, rfl, hst, hby8v1⟩
  have hT2 : Below x8.heap.size x8 y8v2 := hT1.trans (hby8v1.mono hT1.size)
  replace HG9 := Lib.hid (HG9.out.below hby8v1)
  replace HL9 := Lib.hid (HL9.out.below hby8v1)
  replace HG1 := Lib.hid (HG1.out.below hby8v1)
  replace HD1 := Lib.hid (HD1.out.below hby8v1)
  have HT1 := Lib.hid hst
  clear hst
  clear hby8v1
  go_wp2_with fail
  refine hK.out _ _ (HS.out _ hT2) (fun hHeld => ?_)
  clear hK K
  try simp only [Act.put, sA, sB, sC]
  refine wpAnyH_ready (rs := [4]) (by kernel_rfl) (by simp) ?_
  refine AllReadyH.cons rfl (fun K hK => ?_) (AllReadyH.nil)
  go_simp
  refine (cl_good (ClockOf_any nm s G D A1 B1 gn ca1 dn cb1 N 0 T r AT1 tn ct1 0 0 _ hz hgn hgl hdn hdl HG1 HD1 hE0 htn htl HT1 hE1 hE) rfl).mono ?_
  rintro e y8v3 ⟨C1, c1, rfl, hsc, _, _, hby8v2⟩
  have hT3 : Below x8.heap.size x8 y8v3 := hT2.trans (hby8v2.mono hT2.size)
  replace HG9 := Lib.hid (HG9.out.below hby8v2)
  replace HL9 := Lib.hid (HL9.out.below hby8v2)
  replace HG1 := Lib.hid (HG1.out.below hby8v2)
  replace HD1 := Lib.hid (HD1.out.below hby8v2)
  replace HT1 := Lib.hid (HT1.out.below hby8v2)
  rw [hC1.out] at hsc
  have HC1 := Lib.hid hsc
  clear hsc
  clear hby8v2
  go_wp2_with fail
  refine hK.out _ _ (HS.out _ hT3) (fun hHeld => ?_)
  clear hK K
  try simp only [Act.put, sA, sB, sC]
  refine tkH 5 ⟨some 64, _, _, _, _, _⟩ ?_ rfl ?_ (by assumption) ?_
  rotate_left
  · (intro w hSw; (try dsimp only at hSw); go_simp; all_goals with_reducible rfl)
  try simp only [Act.put, sA, sB, sC]
  refine tkH 6 ⟨some 70, _, _, _, _, _⟩ ?_ rfl ?_ (by assumption) ?_
  rotate_left
  · (intro w hSw; (try dsimp only at hSw); go_simp; all_goals with_reducible rfl)
  try simp only [Act.put, sA, sB, sC]
  refine tkH 7 ⟨some 71, _, _, _, _, _⟩ ?_ rfl ?_ (by assumption) ?_
  rotate_left
  · (intro w hSw; (try dsimp only at hSw); go_simp; all_goals with_reducible rfl)
  try simp only [Act.put, sA, sB, sC]
  refine tkH 8 ⟨some 9, _, _, _, _, _⟩ ?_ rfl ?_ (by assumption) ?_
  rotate_left
  · (intro w hSw; (try dsimp only at hSw); go_simp; all_goals with_reducible rfl)
  try simp only [Act.put, sA, sB, sC]
  refine tkH 9 ⟨some 10, _, _, _, _, _⟩ ?_ rfl ?_ (by assumption) ?_
  rotate_left
  · (intro w hSw; (try dsimp only at hSw); go_simp; all_goals with_reducible rfl)
  try simp only [Act.put, sA, sB, sC]
  refine wpAnyH_done (by kernel_rfl) ?_ _
  have hc9 : Below x8.heap.size x8 y8v3 := hT3
  have hB9 : Below w.heap.size w y8v3 := hB8.trans (hc9.mono hB8.size)
  have zu9 := hB9.size
  replace PB := Lib.hid (PB.out.below hc9)
  replace RB := Lib.hid (RB.out.below hc9)
  replace TB := Lib.hid (TB.out.below hc9)
  replace QB := Lib.hid (QB.out.below hc9)
  clear PB_8_0 PB_8_1 PB_8_2 PB_8_3 lPB_8 nPB_8 mPB_8 RB_8_0 RB_8_1 RB_8_2 RB_8_3 RB_8_4 RB_8_5 RB_8_6 RB_8_7 RB_8_8 lRB_8 nRB_8 mRB_8 TB_8_0 TB_8_1 lTB_8 nTB_8 mTB_8 QB_8_0 QB_8_1 QB_8_2 QB_8_3 lQB_8 nQB_8 mQB_8
  clear HS hHeld hT0 hT1 hT2 hT3 hB8 zu8 hc8
  obtain ⟨PB_9_0, PB_9_1, PB_9_2, PB_9_3⟩ := b4 PB.out
  have lPB_9 := PB.out.lt
  have nPB_9 : y8v3.heap.size ≠ w.heap.size := by omega
  have mPB_9 : w.heap.size ≠ y8v3.heap.size := by omega
  obtain ⟨RB_9_0, RB_9_1, RB_9_2, RB_9_3, RB_9_4, RB_9_5, RB_9_6, RB_9_7, RB_9_8⟩ := b9 RB.out
  have lRB_9 := RB.out.lt
  have nRB_9 : y8v3.heap.size ≠ w.heap.size + 1 := by omega
  have mRB_9 : w.heap.size + 1 ≠ y8v3.heap.size := by omega
  obtain ⟨TB_9_0, TB_9_1⟩ := b2 TB.out
  have lTB_9 := TB.out.lt
  have nTB_9 : y8v3.heap.size ≠ w.heap.size + 1 + 1 := by omega
  have mTB_9 : w.heap.size + 1 + 1 ≠ y8v3.heap.size := by omega
  obtain ⟨QB_9_0, QB_9_1, QB_9_2, QB_9_3⟩ := b4 QB.out
  have lQB_9 := QB.out.lt
  have nQB_9 : y8v3.heap.size ≠ x7.heap.size := by omega
  have mQB_9 : x7.heap.size ≠ y8v3.heap.size := by omega
  clear HG1
  clear HD1
  clear HT1
  go_upto_region 9 with (fail)
  have HS : Hid (∀ y, Below y8v3.heap.size y8v3 y → y.cell? ⟨w.heap.size, 0, none⟩ = some (.string nm) ∧ y.cell? ⟨w.heap.size, 1, none⟩ = some (.int .i64 s) ∧ y.cell? ⟨w.heap.size, 2, none⟩ = some (.slice A gn gc) ∧ y.cell? ⟨w.heap.size, 3, none⟩ = some (.slice B dn dc) ∧ y.cell? ⟨w.heap.size + 1, 0, none⟩ = some (.slice AT tn tc) ∧ y.cell? ⟨w.heap.size + 1, 1, none⟩ = some (.int .i64 r.a) ∧ y.cell? ⟨w.heap.size + 1, 2, none⟩ = some (.int .i64 r.b) ∧ y.cell? ⟨w.heap.size + 1, 3, none⟩ = some (.int .i64 r.nc) ∧ y.cell? ⟨w.heap.size + 1, 4, none⟩ = some (.int .i64 r.dn) ∧ y.cell? ⟨w.heap.size + 1, 5, none⟩ = some (.int .i64 r.br) ∧ y.cell? ⟨w.heap.size + 1, 6, none⟩ = some (.int .i64 r.em) ∧ y.cell? ⟨w.heap.size + 1, 7, none⟩ = some (.int .i64 r.pa) ∧ y.cell? ⟨w.heap.size + 1, 8, none⟩ = some (.int .i64 r.sc) ∧ y.cell? ⟨w.heap.size + 1 + 1, 0, none⟩ = some (.int .i64 (k : Int)) ∧ y.cell? ⟨w.heap.size + 1 + 1, 1, none⟩ = some (.int .i64 a1) ∧ y.cell? ⟨x7.heap.size, 0, none⟩ = some (.string nm) ∧ y.cell? ⟨x7.heap.size, 1, none⟩ = some (.int .i64 s) ∧ y.cell? ⟨x7.heap.size, 2, none⟩ = some (.slice A9 gn ca) ∧ y.cell? ⟨x7.heap.size, 3, none⟩ = some (.slice B8 (dn + 1) cb)) := Lib.hid fun y hy => ⟨(hy.cell (p := ⟨w.heap.size, 0, none⟩) lPB_9).trans PB_9_0, (hy.cell (p := ⟨w.heap.size, 1, none⟩) lPB_9).trans PB_9_1, (hy.cell (p := ⟨w.heap.size, 2, none⟩) lPB_9).trans PB_9_2, (hy.cell (p := ⟨w.heap.size, 3, none⟩) lPB_9).trans PB_9_3, (hy.cell (p := ⟨w.heap.size + 1, 0, none⟩) lRB_9).trans RB_9_0, (hy.cell (p := ⟨w.heap.size + 1, 1, none⟩) lRB_9).trans RB_9_1, (hy.cell (p := ⟨w.heap.size + 1, 2, none⟩) lRB_9).trans RB_9_2, (hy.cell (p := ⟨w.heap.size + 1, 3, none⟩) lRB_9).trans RB_9_3, (hy.cell (p := ⟨w.heap.size + 1, 4, none⟩) lRB_9).trans RB_9_4, (hy.cell (p := ⟨w.heap.size + 1, 5, none⟩) lRB_9).trans RB_9_5, (hy.cell (p := ⟨w.heap.size + 1, 6, none⟩) lRB_9).trans RB_9_6, (hy.cell (p := ⟨w.heap.size + 1, 7, none⟩) lRB_9).trans RB_9_7, (hy.cell (p := ⟨w.heap.size + 1, 8, none⟩) lRB_9).trans RB_9_8, (hy.cell (p := ⟨w.heap.size + 1 + 1, 0, none⟩) lTB_9).trans TB_9_0, (hy.cell (p := ⟨w.heap.size + 1 + 1, 1, none⟩) lTB_9).trans TB_9_1, (hy.cell (p := ⟨x7.heap.size, 0, none⟩) lQB_9).trans QB_9_0, (hy.cell (p := ⟨x7.heap.size, 1, none⟩) lQB_9).trans QB_9_1, (hy.cell (p := ⟨x7.heap.size, 2, none⟩) lQB_9).trans QB_9_2, (hy.cell (p := ⟨x7.heap.size, 3, none⟩) lQB_9).trans QB_9_3⟩
  refine wp_region_held_drew (S := (fun w' => w'.cell? ⟨w.heap.size, 0, none⟩ = some (.string nm) ∧ w'.cell? ⟨w.heap.size, 1, none⟩ = some (.int .i64 s) ∧ w'.cell? ⟨w.heap.size, 2, none⟩ = some (.slice A gn gc) ∧ w'.cell? ⟨w.heap.size, 3, none⟩ = some (.slice B dn dc) ∧ w'.cell? ⟨w.heap.size + 1, 0, none⟩ = some (.slice AT tn tc) ∧ w'.cell? ⟨w.heap.size + 1, 1, none⟩ = some (.int .i64 r.a) ∧ w'.cell? ⟨w.heap.size + 1, 2, none⟩ = some (.int .i64 r.b) ∧ w'.cell? ⟨w.heap.size + 1, 3, none⟩ = some (.int .i64 r.nc) ∧ w'.cell? ⟨w.heap.size + 1, 4, none⟩ = some (.int .i64 r.dn) ∧ w'.cell? ⟨w.heap.size + 1, 5, none⟩ = some (.int .i64 r.br) ∧ w'.cell? ⟨w.heap.size + 1, 6, none⟩ = some (.int .i64 r.em) ∧ w'.cell? ⟨w.heap.size + 1, 7, none⟩ = some (.int .i64 r.pa) ∧ w'.cell? ⟨w.heap.size + 1, 8, none⟩ = some (.int .i64 r.sc) ∧ w'.cell? ⟨w.heap.size + 1 + 1, 0, none⟩ = some (.int .i64 (k : Int)) ∧ w'.cell? ⟨w.heap.size + 1 + 1, 1, none⟩ = some (.int .i64 a1) ∧ w'.cell? ⟨x7.heap.size, 0, none⟩ = some (.string nm) ∧ w'.cell? ⟨x7.heap.size, 1, none⟩ = some (.int .i64 s) ∧ w'.cell? ⟨x7.heap.size, 2, none⟩ = some (.slice A9 gn ca) ∧ w'.cell? ⟨x7.heap.size, 3, none⟩ = some (.slice B8 (dn + 1) cb))) (by kernel_rfl) (HS.out _ (Below.refl _ _).drew) (fun hHeld => ?_)
  have hT0 : Below y8v3.heap.size y8v3 y8v3.drew := (Below.refl _ _).drew
  replace HG9 := Lib.hid (HG9.out.below (Below.refl y8v3.heap.size y8v3).drew)
  replace HL9 := Lib.hid (HL9.out.below (Below.refl y8v3.heap.size y8v3).drew)
  replace HC1 := Lib.hid (HC1.out.below (Below.refl y8v3.heap.size y8v3).drew)
  generalize hdr : y8v3.drew = y9v0 at *
  clear hdr
  refine tkH 0 ⟨some 73, _, _, _, _, _⟩ ?_ rfl ?_ (by assumption) ?_
  rotate_left
  · (intro w hSw; (try dsimp only at hSw); go_simp; all_goals with_reducible rfl)
  try simp only [Act.put, sA, sB, sC]
  refine tkH 2 ⟨some 75, _, _, _, _, _⟩ ?_ rfl ?_ (by assumption) ?_
  rotate_left
  · (intro w hSw; (try dsimp only at hSw); go_simp; all_goals with_reducible rfl)
  try simp only [Act.put, sA, sB, sC]
  refine wpAnyH_ready (rs := [1]) (by kernel_rfl) (by simp) ?_
  refine AllReadyH.cons rfl (fun K hK => ?_) (AllReadyH.nil)
  go_simp
  refine (copyP_is nm s G D9 A9 B8 gn ca (dn + 1) cb _ hgn hl9 hg6 (by omega) HG9 HL9 CG9 CL9).mono ?_
  rintro e y9v1 ⟨A2, ca2, B2, cb2, rfl, hsg, hsd, hna, hnb, hby9v0⟩
  have hT1 : Below y8v3.heap.size y8v3 y9v1 := hT0.trans (hby9v0.mono hT0.size)
  replace HG9 := Lib.hid (HG9.out.below hby9v0)
  replace HL9 := Lib.hid (HL9.out.below hby9v0)
  replace HC1 := Lib.hid (HC1.out.below hby9v0)
  have HG2 := Lib.hid hsg
  have HD2 := Lib.hid hsd
  clear hsg hsd hna hnb
  clear hby9v0
  go_wp2_with fail
  refine hK.out _ _ (HS.out _ hT1) (fun hHeld => ?_)
  clear hK K
  try simp only [Act.put, sA, sB, sC]
  refine wpAnyH_ready (rs := [3]) (by kernel_rfl) (by simp) ?_
  refine AllReadyH.cons rfl (fun K hK => ?_) (AllReadyH.nil)
  go_simp
  refine (copyR_is T r AT tn tc _ htn ht6 (Lib.hid (hT.out.below (hB9.trans (hT1.mono hB9.size)))) CT).mono ?_
  rintro e y9v2 ⟨AT2, ct2, rfl, hst, hby9v1⟩
  have hT2 : Below y8v3.heap.size y8v3 y9v2 := hT1.trans (hby9v1.mono hT1.size)
  replace HG9 := Lib.hid (HG9.out.below hby9v1)
  replace HL9 := Lib.hid (HL9.out.below hby9v1)
  replace HC1 := Lib.hid (HC1.out.below hby9v1)
  replace HG2 := Lib.hid (HG2.out.below hby9v1)
  replace HD2 := Lib.hid (HD2.out.below hby9v1)
  have HT2 := Lib.hid hst
  clear hst
  clear hby9v1
  go_wp2_with fail
  refine hK.out _ _ (HS.out _ hT2) (fun hHeld => ?_)
  clear hK K
  try simp only [Act.put, sA, sB, sC]
  refine wpAnyH_ready (rs := [4]) (by kernel_rfl) (by simp) ?_
  refine AllReadyH.cons rfl (fun K hK => ?_) (AllReadyH.nil)
  go_simp
  refine (cl_good (ClockOf_any nm s G D9 A2 B2 gn ca2 (dn + 1) cb2 0 0 T r AT2 tn ct2 0 0 _ hz hgn hgl hl9 (by omega) HG2 HD2 hE9 htn htl HT2 hE1 hE) rfl).mono ?_
  rintro e y9v3 ⟨C2, c2, rfl, hsc, _, _, hby9v2⟩
  have hT3 : Below y8v3.heap.size y8v3 y9v3 := hT2.trans (hby9v2.mono hT2.size)
  replace HG9 := Lib.hid (HG9.out.below hby9v2)
  replace HL9 := Lib.hid (HL9.out.below hby9v2)
  replace HC1 := Lib.hid (HC1.out.below hby9v2)
  replace HG2 := Lib.hid (HG2.out.below hby9v2)
  replace HD2 := Lib.hid (HD2.out.below hby9v2)
  replace HT2 := Lib.hid (HT2.out.below hby9v2)
  rw [hC2.out] at hsc
  have HC2 := Lib.hid hsc
  clear hsc
  clear hby9v2
  go_wp2_with fail
  refine hK.out _ _ (HS.out _ hT3) (fun hHeld => ?_)
  clear hK K
  try simp only [Act.put, sA, sB, sC]
  refine tkH 5 ⟨some 72, _, _, _, _, _⟩ ?_ rfl ?_ (by assumption) ?_
  rotate_left
  · (intro w hSw; (try dsimp only at hSw); go_simp; all_goals with_reducible rfl)
  try simp only [Act.put, sA, sB, sC]
  refine tkH 6 ⟨some 78, _, _, _, _, _⟩ ?_ rfl ?_ (by assumption) ?_
  rotate_left
  · (intro w hSw; (try dsimp only at hSw); go_simp; all_goals with_reducible rfl)
  try simp only [Act.put, sA, sB, sC]
  refine tkH 7 ⟨some 79, _, _, _, _, _⟩ ?_ rfl ?_ (by assumption) ?_
  rotate_left
  · (intro w hSw; (try dsimp only at hSw); go_simp; all_goals with_reducible rfl)
  try simp only [Act.put, sA, sB, sC]
  refine tkH 8 ⟨some 11, _, _, _, _, _⟩ ?_ rfl ?_ (by assumption) ?_
  rotate_left
  · (intro w hSw; (try dsimp only at hSw); go_simp; all_goals with_reducible rfl)
  try simp only [Act.put, sA, sB, sC]
  refine tkH 9 ⟨some 12, _, _, _, _, _⟩ ?_ rfl ?_ (by assumption) ?_
  rotate_left
  · (intro w hSw; (try dsimp only at hSw); go_simp; all_goals with_reducible rfl)
  try simp only [Act.put, sA, sB, sC]
  refine wpAnyH_done (by kernel_rfl) ?_ _
  have hc10 : Below y8v3.heap.size y8v3 y9v3 := hT3
  have hB10 : Below w.heap.size w y9v3 := hB9.trans (hc10.mono hB9.size)
  have zu10 := hB10.size
  replace PB := Lib.hid (PB.out.below hc10)
  replace RB := Lib.hid (RB.out.below hc10)
  replace TB := Lib.hid (TB.out.below hc10)
  replace QB := Lib.hid (QB.out.below hc10)
  clear PB_9_0 PB_9_1 PB_9_2 PB_9_3 lPB_9 nPB_9 mPB_9 RB_9_0 RB_9_1 RB_9_2 RB_9_3 RB_9_4 RB_9_5 RB_9_6 RB_9_7 RB_9_8 lRB_9 nRB_9 mRB_9 TB_9_0 TB_9_1 lTB_9 nTB_9 mTB_9 QB_9_0 QB_9_1 QB_9_2 QB_9_3 lQB_9 nQB_9 mQB_9
  clear HS hHeld hT0 hT1 hT2 hT3 hB9 zu9 hc9
  obtain ⟨PB_10_0, PB_10_1, PB_10_2, PB_10_3⟩ := b4 PB.out
  have lPB_10 := PB.out.lt
  have nPB_10 : y9v3.heap.size ≠ w.heap.size := by omega
  have mPB_10 : w.heap.size ≠ y9v3.heap.size := by omega
  obtain ⟨RB_10_0, RB_10_1, RB_10_2, RB_10_3, RB_10_4, RB_10_5, RB_10_6, RB_10_7, RB_10_8⟩ := b9 RB.out
  have lRB_10 := RB.out.lt
  have nRB_10 : y9v3.heap.size ≠ w.heap.size + 1 := by omega
  have mRB_10 : w.heap.size + 1 ≠ y9v3.heap.size := by omega
  obtain ⟨TB_10_0, TB_10_1⟩ := b2 TB.out
  have lTB_10 := TB.out.lt
  have nTB_10 : y9v3.heap.size ≠ w.heap.size + 1 + 1 := by omega
  have mTB_10 : w.heap.size + 1 + 1 ≠ y9v3.heap.size := by omega
  obtain ⟨QB_10_0, QB_10_1, QB_10_2, QB_10_3⟩ := b4 QB.out
  have lQB_10 := QB.out.lt
  have nQB_10 : y9v3.heap.size ≠ x7.heap.size := by omega
  have mQB_10 : x7.heap.size ≠ y9v3.heap.size := by omega
  clear HG2
  clear HD2
  clear HT2
  go_upto_region 10 with (fail)
  have HS : Hid (∀ y, Below y9v3.heap.size y9v3 y → y.cell? ⟨w.heap.size, 0, none⟩ = some (.string nm) ∧ y.cell? ⟨w.heap.size, 1, none⟩ = some (.int .i64 s) ∧ y.cell? ⟨w.heap.size, 2, none⟩ = some (.slice A gn gc) ∧ y.cell? ⟨w.heap.size, 3, none⟩ = some (.slice B dn dc) ∧ y.cell? ⟨w.heap.size + 1, 0, none⟩ = some (.slice AT tn tc) ∧ y.cell? ⟨w.heap.size + 1, 1, none⟩ = some (.int .i64 r.a) ∧ y.cell? ⟨w.heap.size + 1, 2, none⟩ = some (.int .i64 r.b) ∧ y.cell? ⟨w.heap.size + 1, 3, none⟩ = some (.int .i64 r.nc) ∧ y.cell? ⟨w.heap.size + 1, 4, none⟩ = some (.int .i64 r.dn) ∧ y.cell? ⟨w.heap.size + 1, 5, none⟩ = some (.int .i64 r.br) ∧ y.cell? ⟨w.heap.size + 1, 6, none⟩ = some (.int .i64 r.em) ∧ y.cell? ⟨w.heap.size + 1, 7, none⟩ = some (.int .i64 r.pa) ∧ y.cell? ⟨w.heap.size + 1, 8, none⟩ = some (.int .i64 r.sc) ∧ y.cell? ⟨w.heap.size + 1 + 1, 0, none⟩ = some (.int .i64 (k : Int)) ∧ y.cell? ⟨w.heap.size + 1 + 1, 1, none⟩ = some (.int .i64 a1) ∧ y.cell? ⟨x7.heap.size, 0, none⟩ = some (.string nm) ∧ y.cell? ⟨x7.heap.size, 1, none⟩ = some (.int .i64 s) ∧ y.cell? ⟨x7.heap.size, 2, none⟩ = some (.slice A9 gn ca) ∧ y.cell? ⟨x7.heap.size, 3, none⟩ = some (.slice B8 (dn + 1) cb)) := Lib.hid fun y hy => ⟨(hy.cell (p := ⟨w.heap.size, 0, none⟩) lPB_10).trans PB_10_0, (hy.cell (p := ⟨w.heap.size, 1, none⟩) lPB_10).trans PB_10_1, (hy.cell (p := ⟨w.heap.size, 2, none⟩) lPB_10).trans PB_10_2, (hy.cell (p := ⟨w.heap.size, 3, none⟩) lPB_10).trans PB_10_3, (hy.cell (p := ⟨w.heap.size + 1, 0, none⟩) lRB_10).trans RB_10_0, (hy.cell (p := ⟨w.heap.size + 1, 1, none⟩) lRB_10).trans RB_10_1, (hy.cell (p := ⟨w.heap.size + 1, 2, none⟩) lRB_10).trans RB_10_2, (hy.cell (p := ⟨w.heap.size + 1, 3, none⟩) lRB_10).trans RB_10_3, (hy.cell (p := ⟨w.heap.size + 1, 4, none⟩) lRB_10).trans RB_10_4, (hy.cell (p := ⟨w.heap.size + 1, 5, none⟩) lRB_10).trans RB_10_5, (hy.cell (p := ⟨w.heap.size + 1, 6, none⟩) lRB_10).trans RB_10_6, (hy.cell (p := ⟨w.heap.size + 1, 7, none⟩) lRB_10).trans RB_10_7, (hy.cell (p := ⟨w.heap.size + 1, 8, none⟩) lRB_10).trans RB_10_8, (hy.cell (p := ⟨w.heap.size + 1 + 1, 0, none⟩) lTB_10).trans TB_10_0, (hy.cell (p := ⟨w.heap.size + 1 + 1, 1, none⟩) lTB_10).trans TB_10_1, (hy.cell (p := ⟨x7.heap.size, 0, none⟩) lQB_10).trans QB_10_0, (hy.cell (p := ⟨x7.heap.size, 1, none⟩) lQB_10).trans QB_10_1, (hy.cell (p := ⟨x7.heap.size, 2, none⟩) lQB_10).trans QB_10_2, (hy.cell (p := ⟨x7.heap.size, 3, none⟩) lQB_10).trans QB_10_3⟩
  refine wp_region_held_drew (S := (fun w' => w'.cell? ⟨w.heap.size, 0, none⟩ = some (.string nm) ∧ w'.cell? ⟨w.heap.size, 1, none⟩ = some (.int .i64 s) ∧ w'.cell? ⟨w.heap.size, 2, none⟩ = some (.slice A gn gc) ∧ w'.cell? ⟨w.heap.size, 3, none⟩ = some (.slice B dn dc) ∧ w'.cell? ⟨w.heap.size + 1, 0, none⟩ = some (.slice AT tn tc) ∧ w'.cell? ⟨w.heap.size + 1, 1, none⟩ = some (.int .i64 r.a) ∧ w'.cell? ⟨w.heap.size + 1, 2, none⟩ = some (.int .i64 r.b) ∧ w'.cell? ⟨w.heap.size + 1, 3, none⟩ = some (.int .i64 r.nc) ∧ w'.cell? ⟨w.heap.size + 1, 4, none⟩ = some (.int .i64 r.dn) ∧ w'.cell? ⟨w.heap.size + 1, 5, none⟩ = some (.int .i64 r.br) ∧ w'.cell? ⟨w.heap.size + 1, 6, none⟩ = some (.int .i64 r.em) ∧ w'.cell? ⟨w.heap.size + 1, 7, none⟩ = some (.int .i64 r.pa) ∧ w'.cell? ⟨w.heap.size + 1, 8, none⟩ = some (.int .i64 r.sc) ∧ w'.cell? ⟨w.heap.size + 1 + 1, 0, none⟩ = some (.int .i64 (k : Int)) ∧ w'.cell? ⟨w.heap.size + 1 + 1, 1, none⟩ = some (.int .i64 a1) ∧ w'.cell? ⟨x7.heap.size, 0, none⟩ = some (.string nm) ∧ w'.cell? ⟨x7.heap.size, 1, none⟩ = some (.int .i64 s) ∧ w'.cell? ⟨x7.heap.size, 2, none⟩ = some (.slice A9 gn ca) ∧ w'.cell? ⟨x7.heap.size, 3, none⟩ = some (.slice B8 (dn + 1) cb))) (by kernel_rfl) (HS.out _ (Below.refl _ _).drew) (fun hHeld => ?_)
  have hT0 : Below y9v3.heap.size y9v3 y9v3.drew := (Below.refl _ _).drew
  replace HG9 := Lib.hid (HG9.out.below (Below.refl y9v3.heap.size y9v3).drew)
  replace HL9 := Lib.hid (HL9.out.below (Below.refl y9v3.heap.size y9v3).drew)
  replace HC1 := Lib.hid (HC1.out.below (Below.refl y9v3.heap.size y9v3).drew)
  replace HC2 := Lib.hid (HC2.out.below (Below.refl y9v3.heap.size y9v3).drew)
  generalize hdr : y9v3.drew = y10v0 at *
  clear hdr
  refine tkH 0 ⟨some 81, _, _, _, _, _⟩ ?_ rfl ?_ (by assumption) ?_
  rotate_left
  · (intro w hSw; (try dsimp only at hSw); go_simp; all_goals with_reducible rfl)
  try simp only [Act.put, sA, sB, sC]
  refine tkH 2 ⟨some 83, _, _, _, _, _⟩ ?_ rfl ?_ (by assumption) ?_
  rotate_left
  · (intro w hSw; (try dsimp only at hSw); go_simp; all_goals with_reducible rfl)
  try simp only [Act.put, sA, sB, sC]
  refine tkH 3 ⟨some 84, _, _, _, _, _⟩ ?_ rfl ?_ (by assumption) ?_
  rotate_left
  · (intro w hSw; (try dsimp only at hSw); go_simp; all_goals with_reducible rfl)
  try simp only [Act.put, sA, sB, sC]
  refine tkH 4 ⟨some 85, _, _, _, _, _⟩ ?_ rfl ?_ (by assumption) ?_
  rotate_left
  · (intro w hSw; (try dsimp only at hSw); go_simp; all_goals with_reducible rfl)
  try simp only [Act.put, sA, sB, sC]
  refine tkH 5 ⟨some 86, _, _, _, _, _⟩ ?_ rfl ?_ (by assumption) ?_
  rotate_left
  · (intro w hSw; (try dsimp only at hSw); go_simp; all_goals with_reducible rfl)
  try simp only [Act.put, sA, sB, sC]
  refine wpAnyH_ready (rs := [1]) (by kernel_rfl) (by simp) ?_
  refine AllReadyH.cons rfl (fun K hK => ?_) (AllReadyH.nil)
  go_simp
  refine (copyP_is nm s G D A B gn gc dn dc _ hgn hdn hg6 hd6 (Lib.hid (hG.out.below (hB10.trans (hT0.mono hB10.size)))) (Lib.hid (hD.out.below (hB10.trans (hT0.mono hB10.size)))) CG CD).mono ?_
  rintro e y10v1 ⟨A3, ca3, B3, cb3, rfl, hsg, hsd, hna, hnb, hby10v0⟩
  have hT1 : Below y9v3.heap.size y9v3 y10v1 := hT0.trans (hby10v0.mono hT0.size)
  replace HG9 := Lib.hid (HG9.out.below hby10v0)
  replace HL9 := Lib.hid (HL9.out.below hby10v0)
  replace HC1 := Lib.hid (HC1.out.below hby10v0)
  replace HC2 := Lib.hid (HC2.out.below hby10v0)
  have HG3 := Lib.hid hsg
  have HD3 := Lib.hid hsd
  clear hsg hsd hna hnb
  clear hby10v0
  go_wp2_with fail
  refine hK.out _ _ (HS.out _ hT1) (fun hHeld => ?_)
  clear hK K
  try simp only [Act.put, sA, sB, sC]
  refine wpAnyH_ready (rs := [6]) (by kernel_rfl) (by simp) ?_
  refine AllReadyH.cons rfl (fun K hK => ?_) (AllReadyH.nil)
  go_simp
  refine (hx9.out A3 ca3 B3 cb3 _ HG3 HD3).mono ?_
  rintro e y10v2 ⟨rfl, hby10v1⟩
  have hT2 : Below y9v3.heap.size y9v3 y10v2 := hT1.trans (hby10v1.mono hT1.size)
  replace HG9 := Lib.hid (HG9.out.below hby10v1)
  replace HL9 := Lib.hid (HL9.out.below hby10v1)
  replace HC1 := Lib.hid (HC1.out.below hby10v1)
  replace HC2 := Lib.hid (HC2.out.below hby10v1)
  replace HG3 := Lib.hid (HG3.out.below hby10v1)
  replace HD3 := Lib.hid (HD3.out.below hby10v1)
  clear hby10v1
  go_wp2_with fail
  refine hK.out _ _ (HS.out _ hT2) (fun hHeld => ?_)
  clear hK K
  try simp only [Act.put, sA, sB, sC]
  refine tkH 7 ⟨some 80, _, _, _, _, _⟩ ?_ rfl ?_ (by assumption) ?_
  rotate_left
  · (intro w hSw; (try dsimp only at hSw); go_simp; all_goals with_reducible rfl)
  try simp only [Act.put, sA, sB, sC]
  refine tkH 8 ⟨some 88, _, _, _, _, _⟩ ?_ rfl ?_ (by assumption) ?_
  rotate_left
  · (intro w hSw; (try dsimp only at hSw); go_simp; all_goals with_reducible rfl)
  try simp only [Act.put, sA, sB, sC]
  refine tkH 9 ⟨some 89, _, _, _, _, _⟩ ?_ rfl ?_ (by assumption) ?_
  rotate_left
  · (intro w hSw; (try dsimp only at hSw); go_simp; all_goals with_reducible rfl)
  try simp only [Act.put, sA, sB, sC]
  refine tkH 10 ⟨some 13, _, _, _, _, _⟩ ?_ rfl ?_ (by assumption) ?_
  rotate_left
  · (intro w hSw; (try dsimp only at hSw); go_simp; all_goals with_reducible rfl)
  try simp only [Act.put, sA, sB, sC]
  refine tkH 11 ⟨some 14, _, _, _, _, _⟩ ?_ rfl ?_ (by assumption) ?_
  rotate_left
  · (intro w hSw; (try dsimp only at hSw); go_simp; all_goals with_reducible rfl)
  try simp only [Act.put, sA, sB, sC]
  refine wpAnyH_done (by kernel_rfl) ?_ _
  have hc11 : Below y9v3.heap.size y9v3 y10v2 := hT2
  have hB11 : Below w.heap.size w y10v2 := hB10.trans (hc11.mono hB10.size)
  have zu11 := hB11.size
  replace PB := Lib.hid (PB.out.below hc11)
  replace RB := Lib.hid (RB.out.below hc11)
  replace TB := Lib.hid (TB.out.below hc11)
  replace QB := Lib.hid (QB.out.below hc11)
  clear PB_10_0 PB_10_1 PB_10_2 PB_10_3 lPB_10 nPB_10 mPB_10 RB_10_0 RB_10_1 RB_10_2 RB_10_3 RB_10_4 RB_10_5 RB_10_6 RB_10_7 RB_10_8 lRB_10 nRB_10 mRB_10 TB_10_0 TB_10_1 lTB_10 nTB_10 mTB_10 QB_10_0 QB_10_1 QB_10_2 QB_10_3 lQB_10 nQB_10 mQB_10
  clear HS hHeld hT0 hT1 hT2 hB10 zu10 hc10
  obtain ⟨PB_11_0, PB_11_1, PB_11_2, PB_11_3⟩ := b4 PB.out
  have lPB_11 := PB.out.lt
  have nPB_11 : y10v2.heap.size ≠ w.heap.size := by omega
  have mPB_11 : w.heap.size ≠ y10v2.heap.size := by omega
  obtain ⟨RB_11_0, RB_11_1, RB_11_2, RB_11_3, RB_11_4, RB_11_5, RB_11_6, RB_11_7, RB_11_8⟩ := b9 RB.out
  have lRB_11 := RB.out.lt
  have nRB_11 : y10v2.heap.size ≠ w.heap.size + 1 := by omega
  have mRB_11 : w.heap.size + 1 ≠ y10v2.heap.size := by omega
  obtain ⟨TB_11_0, TB_11_1⟩ := b2 TB.out
  have lTB_11 := TB.out.lt
  have nTB_11 : y10v2.heap.size ≠ w.heap.size + 1 + 1 := by omega
  have mTB_11 : w.heap.size + 1 + 1 ≠ y10v2.heap.size := by omega
  obtain ⟨QB_11_0, QB_11_1, QB_11_2, QB_11_3⟩ := b4 QB.out
  have lQB_11 := QB.out.lt
  have nQB_11 : y10v2.heap.size ≠ x7.heap.size := by omega
  have mQB_11 : x7.heap.size ≠ y10v2.heap.size := by omega
  clear HG3
  clear HD3
  go_upto_region 11 with (fail)
  have HS : Hid (∀ y, Below y10v2.heap.size y10v2 y → y.cell? ⟨w.heap.size, 0, none⟩ = some (.string nm) ∧ y.cell? ⟨w.heap.size, 1, none⟩ = some (.int .i64 s) ∧ y.cell? ⟨w.heap.size, 2, none⟩ = some (.slice A gn gc) ∧ y.cell? ⟨w.heap.size, 3, none⟩ = some (.slice B dn dc) ∧ y.cell? ⟨w.heap.size + 1, 0, none⟩ = some (.slice AT tn tc) ∧ y.cell? ⟨w.heap.size + 1, 1, none⟩ = some (.int .i64 r.a) ∧ y.cell? ⟨w.heap.size + 1, 2, none⟩ = some (.int .i64 r.b) ∧ y.cell? ⟨w.heap.size + 1, 3, none⟩ = some (.int .i64 r.nc) ∧ y.cell? ⟨w.heap.size + 1, 4, none⟩ = some (.int .i64 r.dn) ∧ y.cell? ⟨w.heap.size + 1, 5, none⟩ = some (.int .i64 r.br) ∧ y.cell? ⟨w.heap.size + 1, 6, none⟩ = some (.int .i64 r.em) ∧ y.cell? ⟨w.heap.size + 1, 7, none⟩ = some (.int .i64 r.pa) ∧ y.cell? ⟨w.heap.size + 1, 8, none⟩ = some (.int .i64 r.sc) ∧ y.cell? ⟨w.heap.size + 1 + 1, 0, none⟩ = some (.int .i64 (k : Int)) ∧ y.cell? ⟨w.heap.size + 1 + 1, 1, none⟩ = some (.int .i64 a1) ∧ y.cell? ⟨x7.heap.size, 0, none⟩ = some (.string nm) ∧ y.cell? ⟨x7.heap.size, 1, none⟩ = some (.int .i64 s) ∧ y.cell? ⟨x7.heap.size, 2, none⟩ = some (.slice A9 gn ca) ∧ y.cell? ⟨x7.heap.size, 3, none⟩ = some (.slice B8 (dn + 1) cb)) := Lib.hid fun y hy => ⟨(hy.cell (p := ⟨w.heap.size, 0, none⟩) lPB_11).trans PB_11_0, (hy.cell (p := ⟨w.heap.size, 1, none⟩) lPB_11).trans PB_11_1, (hy.cell (p := ⟨w.heap.size, 2, none⟩) lPB_11).trans PB_11_2, (hy.cell (p := ⟨w.heap.size, 3, none⟩) lPB_11).trans PB_11_3, (hy.cell (p := ⟨w.heap.size + 1, 0, none⟩) lRB_11).trans RB_11_0, (hy.cell (p := ⟨w.heap.size + 1, 1, none⟩) lRB_11).trans RB_11_1, (hy.cell (p := ⟨w.heap.size + 1, 2, none⟩) lRB_11).trans RB_11_2, (hy.cell (p := ⟨w.heap.size + 1, 3, none⟩) lRB_11).trans RB_11_3, (hy.cell (p := ⟨w.heap.size + 1, 4, none⟩) lRB_11).trans RB_11_4, (hy.cell (p := ⟨w.heap.size + 1, 5, none⟩) lRB_11).trans RB_11_5, (hy.cell (p := ⟨w.heap.size + 1, 6, none⟩) lRB_11).trans RB_11_6, (hy.cell (p := ⟨w.heap.size + 1, 7, none⟩) lRB_11).trans RB_11_7, (hy.cell (p := ⟨w.heap.size + 1, 8, none⟩) lRB_11).trans RB_11_8, (hy.cell (p := ⟨w.heap.size + 1 + 1, 0, none⟩) lTB_11).trans TB_11_0, (hy.cell (p := ⟨w.heap.size + 1 + 1, 1, none⟩) lTB_11).trans TB_11_1, (hy.cell (p := ⟨x7.heap.size, 0, none⟩) lQB_11).trans QB_11_0, (hy.cell (p := ⟨x7.heap.size, 1, none⟩) lQB_11).trans QB_11_1, (hy.cell (p := ⟨x7.heap.size, 2, none⟩) lQB_11).trans QB_11_2, (hy.cell (p := ⟨x7.heap.size, 3, none⟩) lQB_11).trans QB_11_3⟩
  refine wp_region_held_drew (S := (fun w' => w'.cell? ⟨w.heap.size, 0, none⟩ = some (.string nm) ∧ w'.cell? ⟨w.heap.size, 1, none⟩ = some (.int .i64 s) ∧ w'.cell? ⟨w.heap.size, 2, none⟩ = some (.slice A gn gc) ∧ w'.cell? ⟨w.heap.size, 3, none⟩ = some (.slice B dn dc) ∧ w'.cell? ⟨w.heap.size + 1, 0, none⟩ = some (.slice AT tn tc) ∧ w'.cell? ⟨w.heap.size + 1, 1, none⟩ = some (.int .i64 r.a) ∧ w'.cell? ⟨w.heap.size + 1, 2, none⟩ = some (.int .i64 r.b) ∧ w'.cell? ⟨w.heap.size + 1, 3, none⟩ = some (.int .i64 r.nc) ∧ w'.cell? ⟨w.heap.size + 1, 4, none⟩ = some (.int .i64 r.dn) ∧ w'.cell? ⟨w.heap.size + 1, 5, none⟩ = some (.int .i64 r.br) ∧ w'.cell? ⟨w.heap.size + 1, 6, none⟩ = some (.int .i64 r.em) ∧ w'.cell? ⟨w.heap.size + 1, 7, none⟩ = some (.int .i64 r.pa) ∧ w'.cell? ⟨w.heap.size + 1, 8, none⟩ = some (.int .i64 r.sc) ∧ w'.cell? ⟨w.heap.size + 1 + 1, 0, none⟩ = some (.int .i64 (k : Int)) ∧ w'.cell? ⟨w.heap.size + 1 + 1, 1, none⟩ = some (.int .i64 a1) ∧ w'.cell? ⟨x7.heap.size, 0, none⟩ = some (.string nm) ∧ w'.cell? ⟨x7.heap.size, 1, none⟩ = some (.int .i64 s) ∧ w'.cell? ⟨x7.heap.size, 2, none⟩ = some (.slice A9 gn ca) ∧ w'.cell? ⟨x7.heap.size, 3, none⟩ = some (.slice B8 (dn + 1) cb))) (by kernel_rfl) (HS.out _ (Below.refl _ _).drew) (fun hHeld => ?_)
  have hT0 : Below y10v2.heap.size y10v2 y10v2.drew := (Below.refl _ _).drew
  replace HG9 := Lib.hid (HG9.out.below (Below.refl y10v2.heap.size y10v2).drew)
  replace HL9 := Lib.hid (HL9.out.below (Below.refl y10v2.heap.size y10v2).drew)
  replace HC1 := Lib.hid (HC1.out.below (Below.refl y10v2.heap.size y10v2).drew)
  replace HC2 := Lib.hid (HC2.out.below (Below.refl y10v2.heap.size y10v2).drew)
  generalize hdr : y10v2.drew = y11v0 at *
  clear hdr
  refine tkH 0 ⟨some 91, _, _, _, _, _⟩ ?_ rfl ?_ (by assumption) ?_
  rotate_left
  · (intro w hSw; (try dsimp only at hSw); go_simp; all_goals with_reducible rfl)
  try simp only [Act.put, sA, sB, sC]
  refine tkH 2 ⟨some 93, _, _, _, _, _⟩ ?_ rfl ?_ (by assumption) ?_
  rotate_left
  · (intro w hSw; (try dsimp only at hSw); go_simp; all_goals with_reducible rfl)
  try simp only [Act.put, sA, sB, sC]
  refine tkH 3 ⟨some 94, _, _, _, _, _⟩ ?_ rfl ?_ (by assumption) ?_
  rotate_left
  · (intro w hSw; (try dsimp only at hSw); go_simp; all_goals with_reducible rfl)
  try simp only [Act.put, sA, sB, sC]
  refine tkH 4 ⟨some 95, _, _, _, _, _⟩ ?_ rfl ?_ (by assumption) ?_
  rotate_left
  · (intro w hSw; (try dsimp only at hSw); go_simp; all_goals with_reducible rfl)
  try simp only [Act.put, sA, sB, sC]
  refine tkH 5 ⟨some 96, _, _, _, _, _⟩ ?_ rfl ?_ (by assumption) ?_
  rotate_left
  · (intro w hSw; (try dsimp only at hSw); go_simp; all_goals with_reducible rfl)
  try simp only [Act.put, sA, sB, sC]
  refine wpAnyH_ready (rs := [1]) (by kernel_rfl) (by simp) ?_
  refine AllReadyH.cons rfl (fun K hK => ?_) (AllReadyH.nil)
  go_simp
  refine (copyP_is nm s G D9 A9 B8 gn ca (dn + 1) cb _ hgn hl9 hg6 (by omega) HG9 HL9 CG9 CL9).mono ?_
  rintro e y11v1 ⟨A4, ca4, B4, cb4, rfl, hsg, hsd, hna, hnb, hby11v0⟩
  have hT1 : Below y10v2.heap.size y10v2 y11v1 := hT0.trans (hby11v0.mono hT0.size)
  replace HG9 := Lib.hid (HG9.out.below hby11v0)
  replace HL9 := Lib.hid (HL9.out.below hby11v0)
  replace HC1 := Lib.hid (HC1.out.below hby11v0)
  replace HC2 := Lib.hid (HC2.out.below hby11v0)
  have HG4 := Lib.hid hsg
  have HD4 := Lib.hid hsd
  clear hsg hsd hna hnb
  clear hby11v0
  go_wp2_with fail
  refine hK.out _ _ (HS.out _ hT1) (fun hHeld => ?_)
  clear hK K
  try simp only [Act.put, sA, sB, sC]
  refine wpAnyH_ready (rs := [6]) (by kernel_rfl) (by simp) ?_
  refine AllReadyH.cons rfl (fun K hK => ?_) (AllReadyH.nil)
  go_simp
  refine (hy9.out A4 ca4 B4 cb4 _ HG4 HD4).mono ?_
  rintro e y11v2 ⟨rfl, hby11v1⟩
  have hT2 : Below y10v2.heap.size y10v2 y11v2 := hT1.trans (hby11v1.mono hT1.size)
  replace HG9 := Lib.hid (HG9.out.below hby11v1)
  replace HL9 := Lib.hid (HL9.out.below hby11v1)
  replace HC1 := Lib.hid (HC1.out.below hby11v1)
  replace HC2 := Lib.hid (HC2.out.below hby11v1)
  replace HG4 := Lib.hid (HG4.out.below hby11v1)
  replace HD4 := Lib.hid (HD4.out.below hby11v1)
  clear hby11v1
  go_wp2_with fail
  refine hK.out _ _ (HS.out _ hT2) (fun hHeld => ?_)
  clear hK K
  try simp only [Act.put, sA, sB, sC]
  refine tkH 7 ⟨some 90, _, _, _, _, _⟩ ?_ rfl ?_ (by assumption) ?_
  rotate_left
  · (intro w hSw; (try dsimp only at hSw); go_simp; all_goals with_reducible rfl)
  try simp only [Act.put, sA, sB, sC]
  refine tkH 8 ⟨some 98, _, _, _, _, _⟩ ?_ rfl ?_ (by assumption) ?_
  rotate_left
  · (intro w hSw; (try dsimp only at hSw); go_simp; all_goals with_reducible rfl)
  try simp only [Act.put, sA, sB, sC]
  refine tkH 9 ⟨some 99, _, _, _, _, _⟩ ?_ rfl ?_ (by assumption) ?_
  rotate_left
  · (intro w hSw; (try dsimp only at hSw); go_simp; all_goals with_reducible rfl)
  try simp only [Act.put, sA, sB, sC]
  refine tkH 10 ⟨some 15, _, _, _, _, _⟩ ?_ rfl ?_ (by assumption) ?_
  rotate_left
  · (intro w hSw; (try dsimp only at hSw); go_simp; all_goals with_reducible rfl)
  try simp only [Act.put, sA, sB, sC]
  refine tkH 11 ⟨some 16, _, _, _, _, _⟩ ?_ rfl ?_ (by assumption) ?_
  rotate_left
  · (intro w hSw; (try dsimp only at hSw); go_simp; all_goals with_reducible rfl)
  try simp only [Act.put, sA, sB, sC]
  refine wpAnyH_done (by kernel_rfl) ?_ _
  have hc12 : Below y10v2.heap.size y10v2 y11v2 := hT2
  have hB12 : Below w.heap.size w y11v2 := hB11.trans (hc12.mono hB11.size)
  have zu12 := hB12.size
  replace PB := Lib.hid (PB.out.below hc12)
  replace RB := Lib.hid (RB.out.below hc12)
  replace TB := Lib.hid (TB.out.below hc12)
  replace QB := Lib.hid (QB.out.below hc12)
  clear PB_11_0 PB_11_1 PB_11_2 PB_11_3 lPB_11 nPB_11 mPB_11 RB_11_0 RB_11_1 RB_11_2 RB_11_3 RB_11_4 RB_11_5 RB_11_6 RB_11_7 RB_11_8 lRB_11 nRB_11 mRB_11 TB_11_0 TB_11_1 lTB_11 nTB_11 mTB_11 QB_11_0 QB_11_1 QB_11_2 QB_11_3 lQB_11 nQB_11 mQB_11
  clear HS hHeld hT0 hT1 hT2 hB11 zu11 hc11
  obtain ⟨PB_12_0, PB_12_1, PB_12_2, PB_12_3⟩ := b4 PB.out
  have lPB_12 := PB.out.lt
  have nPB_12 : y11v2.heap.size ≠ w.heap.size := by omega
  have mPB_12 : w.heap.size ≠ y11v2.heap.size := by omega
  obtain ⟨RB_12_0, RB_12_1, RB_12_2, RB_12_3, RB_12_4, RB_12_5, RB_12_6, RB_12_7, RB_12_8⟩ := b9 RB.out
  have lRB_12 := RB.out.lt
  have nRB_12 : y11v2.heap.size ≠ w.heap.size + 1 := by omega
  have mRB_12 : w.heap.size + 1 ≠ y11v2.heap.size := by omega
  obtain ⟨TB_12_0, TB_12_1⟩ := b2 TB.out
  have lTB_12 := TB.out.lt
  have nTB_12 : y11v2.heap.size ≠ w.heap.size + 1 + 1 := by omega
  have mTB_12 : w.heap.size + 1 + 1 ≠ y11v2.heap.size := by omega
  obtain ⟨QB_12_0, QB_12_1, QB_12_2, QB_12_3⟩ := b4 QB.out
  have lQB_12 := QB.out.lt
  have nQB_12 : y11v2.heap.size ≠ x7.heap.size := by omega
  have mQB_12 : x7.heap.size ≠ y11v2.heap.size := by omega
  clear HG4
  clear HD4
  go_upto_region 12 with (fail)
  have HS : Hid (∀ y, Below y11v2.heap.size y11v2 y → y.cell? ⟨w.heap.size, 0, none⟩ = some (.string nm) ∧ y.cell? ⟨w.heap.size, 1, none⟩ = some (.int .i64 s) ∧ y.cell? ⟨w.heap.size, 2, none⟩ = some (.slice A gn gc) ∧ y.cell? ⟨w.heap.size, 3, none⟩ = some (.slice B dn dc) ∧ y.cell? ⟨w.heap.size + 1, 0, none⟩ = some (.slice AT tn tc) ∧ y.cell? ⟨w.heap.size + 1, 1, none⟩ = some (.int .i64 r.a) ∧ y.cell? ⟨w.heap.size + 1, 2, none⟩ = some (.int .i64 r.b) ∧ y.cell? ⟨w.heap.size + 1, 3, none⟩ = some (.int .i64 r.nc) ∧ y.cell? ⟨w.heap.size + 1, 4, none⟩ = some (.int .i64 r.dn) ∧ y.cell? ⟨w.heap.size + 1, 5, none⟩ = some (.int .i64 r.br) ∧ y.cell? ⟨w.heap.size + 1, 6, none⟩ = some (.int .i64 r.em) ∧ y.cell? ⟨w.heap.size + 1, 7, none⟩ = some (.int .i64 r.pa) ∧ y.cell? ⟨w.heap.size + 1, 8, none⟩ = some (.int .i64 r.sc) ∧ y.cell? ⟨w.heap.size + 1 + 1, 0, none⟩ = some (.int .i64 (k : Int)) ∧ y.cell? ⟨w.heap.size + 1 + 1, 1, none⟩ = some (.int .i64 a1) ∧ y.cell? ⟨x7.heap.size, 0, none⟩ = some (.string nm) ∧ y.cell? ⟨x7.heap.size, 1, none⟩ = some (.int .i64 s) ∧ y.cell? ⟨x7.heap.size, 2, none⟩ = some (.slice A9 gn ca) ∧ y.cell? ⟨x7.heap.size, 3, none⟩ = some (.slice B8 (dn + 1) cb)) := Lib.hid fun y hy => ⟨(hy.cell (p := ⟨w.heap.size, 0, none⟩) lPB_12).trans PB_12_0, (hy.cell (p := ⟨w.heap.size, 1, none⟩) lPB_12).trans PB_12_1, (hy.cell (p := ⟨w.heap.size, 2, none⟩) lPB_12).trans PB_12_2, (hy.cell (p := ⟨w.heap.size, 3, none⟩) lPB_12).trans PB_12_3, (hy.cell (p := ⟨w.heap.size + 1, 0, none⟩) lRB_12).trans RB_12_0, (hy.cell (p := ⟨w.heap.size + 1, 1, none⟩) lRB_12).trans RB_12_1, (hy.cell (p := ⟨w.heap.size + 1, 2, none⟩) lRB_12).trans RB_12_2, (hy.cell (p := ⟨w.heap.size + 1, 3, none⟩) lRB_12).trans RB_12_3, (hy.cell (p := ⟨w.heap.size + 1, 4, none⟩) lRB_12).trans RB_12_4, (hy.cell (p := ⟨w.heap.size + 1, 5, none⟩) lRB_12).trans RB_12_5, (hy.cell (p := ⟨w.heap.size + 1, 6, none⟩) lRB_12).trans RB_12_6, (hy.cell (p := ⟨w.heap.size + 1, 7, none⟩) lRB_12).trans RB_12_7, (hy.cell (p := ⟨w.heap.size + 1, 8, none⟩) lRB_12).trans RB_12_8, (hy.cell (p := ⟨w.heap.size + 1 + 1, 0, none⟩) lTB_12).trans TB_12_0, (hy.cell (p := ⟨w.heap.size + 1 + 1, 1, none⟩) lTB_12).trans TB_12_1, (hy.cell (p := ⟨x7.heap.size, 0, none⟩) lQB_12).trans QB_12_0, (hy.cell (p := ⟨x7.heap.size, 1, none⟩) lQB_12).trans QB_12_1, (hy.cell (p := ⟨x7.heap.size, 2, none⟩) lQB_12).trans QB_12_2, (hy.cell (p := ⟨x7.heap.size, 3, none⟩) lQB_12).trans QB_12_3⟩
  refine wp_region_held_drew (S := (fun w' => w'.cell? ⟨w.heap.size, 0, none⟩ = some (.string nm) ∧ w'.cell? ⟨w.heap.size, 1, none⟩ = some (.int .i64 s) ∧ w'.cell? ⟨w.heap.size, 2, none⟩ = some (.slice A gn gc) ∧ w'.cell? ⟨w.heap.size, 3, none⟩ = some (.slice B dn dc) ∧ w'.cell? ⟨w.heap.size + 1, 0, none⟩ = some (.slice AT tn tc) ∧ w'.cell? ⟨w.heap.size + 1, 1, none⟩ = some (.int .i64 r.a) ∧ w'.cell? ⟨w.heap.size + 1, 2, none⟩ = some (.int .i64 r.b) ∧ w'.cell? ⟨w.heap.size + 1, 3, none⟩ = some (.int .i64 r.nc) ∧ w'.cell? ⟨w.heap.size + 1, 4, none⟩ = some (.int .i64 r.dn) ∧ w'.cell? ⟨w.heap.size + 1, 5, none⟩ = some (.int .i64 r.br) ∧ w'.cell? ⟨w.heap.size + 1, 6, none⟩ = some (.int .i64 r.em) ∧ w'.cell? ⟨w.heap.size + 1, 7, none⟩ = some (.int .i64 r.pa) ∧ w'.cell? ⟨w.heap.size + 1, 8, none⟩ = some (.int .i64 r.sc) ∧ w'.cell? ⟨w.heap.size + 1 + 1, 0, none⟩ = some (.int .i64 (k : Int)) ∧ w'.cell? ⟨w.heap.size + 1 + 1, 1, none⟩ = some (.int .i64 a1) ∧ w'.cell? ⟨x7.heap.size, 0, none⟩ = some (.string nm) ∧ w'.cell? ⟨x7.heap.size, 1, none⟩ = some (.int .i64 s) ∧ w'.cell? ⟨x7.heap.size, 2, none⟩ = some (.slice A9 gn ca) ∧ w'.cell? ⟨x7.heap.size, 3, none⟩ = some (.slice B8 (dn + 1) cb))) (by kernel_rfl) (HS.out _ (Below.refl _ _).drew) (fun hHeld => ?_)
  have hT0 : Below y11v2.heap.size y11v2 y11v2.drew := (Below.refl _ _).drew
  replace HG9 := Lib.hid (HG9.out.below (Below.refl y11v2.heap.size y11v2).drew)
  replace HL9 := Lib.hid (HL9.out.below (Below.refl y11v2.heap.size y11v2).drew)
  replace HC1 := Lib.hid (HC1.out.below (Below.refl y11v2.heap.size y11v2).drew)
  replace HC2 := Lib.hid (HC2.out.below (Below.refl y11v2.heap.size y11v2).drew)
  generalize hdr : y11v2.drew = y12v0 at *
  clear hdr
  refine tkH 0 ⟨some 101, _, _, _, _, _⟩ ?_ rfl ?_ (by assumption) ?_
  rotate_left
  · (intro w hSw; (try dsimp only at hSw); go_simp; all_goals with_reducible rfl)
  try simp only [Act.put, sA, sB, sC]
  refine tkH 2 ⟨some 103, _, _, _, _, _⟩ ?_ rfl ?_ (by assumption) ?_
  rotate_left
  · (intro w hSw; (try dsimp only at hSw); go_simp; all_goals with_reducible rfl)
  try simp only [Act.put, sA, sB, sC]
  refine tkH 3 ⟨some 104, _, _, _, _, _⟩ ?_ rfl ?_ (by assumption) ?_
  rotate_left
  · (intro w hSw; (try dsimp only at hSw); go_simp; all_goals with_reducible rfl)
  try simp only [Act.put, sA, sB, sC]
  refine tkH 4 ⟨some 105, _, _, _, _, _⟩ ?_ rfl ?_ (by assumption) ?_
  rotate_left
  · (intro w hSw; (try dsimp only at hSw); go_simp; all_goals with_reducible rfl)
  try simp only [Act.put, sA, sB, sC]
  refine tkH 5 ⟨some 106, _, _, _, _, _⟩ ?_ rfl ?_ (by assumption) ?_
  rotate_left
  · (intro w hSw; (try dsimp only at hSw); go_simp; all_goals with_reducible rfl)
  try simp only [Act.put, sA, sB, sC]
  refine tkH 6 ⟨some 107, _, _, _, _, _⟩ ?_ rfl ?_ (by assumption) ?_
  rotate_left
  · (intro w hSw; (try dsimp only at hSw); go_simp; all_goals with_reducible rfl)
  try simp only [Act.put, sA, sB, sC]
  refine wpAnyH_ready (rs := [1]) (by kernel_rfl) (by simp) ?_
  refine AllReadyH.cons rfl (fun K hK => ?_) (AllReadyH.nil)
  go_simp
  refine (copyP_is nm s G D9 A9 B8 gn ca (dn + 1) cb _ hgn hl9 hg6 (by omega) HG9 HL9 CG9 CL9).mono ?_
  rintro e y12v1 ⟨A5, ca5, B5, cb5, rfl, hsg, hsd, hna, hnb, hby12v0⟩
  have hT1 : Below y11v2.heap.size y11v2 y12v1 := hT0.trans (hby12v0.mono hT0.size)
  replace HG9 := Lib.hid (HG9.out.below hby12v0)
  replace HL9 := Lib.hid (HL9.out.below hby12v0)
  replace HC1 := Lib.hid (HC1.out.below hby12v0)
  replace HC2 := Lib.hid (HC2.out.below hby12v0)
  have HG5 := Lib.hid hsg
  have HD5 := Lib.hid hsd
  clear hsg hsd hna hnb
  clear hby12v0
  go_wp2_with fail
  refine hK.out _ _ (HS.out _ hT1) (fun hHeld => ?_)
  clear hK K
  try simp only [Act.put, sA, sB, sC]
  refine wpAnyH_ready (rs := [7]) (by kernel_rfl) (by simp) ?_
  refine AllReadyH.cons rfl (fun K hK => ?_) (AllReadyH.nil)
  go_simp
  refine (hz9.out A5 ca5 B5 cb5 _ HG5 HD5).mono ?_
  rintro e y12v2 ⟨rfl, hby12v1⟩
  have hT2 : Below y11v2.heap.size y11v2 y12v2 := hT1.trans (hby12v1.mono hT1.size)
  replace HG9 := Lib.hid (HG9.out.below hby12v1)
  replace HL9 := Lib.hid (HL9.out.below hby12v1)
  replace HC1 := Lib.hid (HC1.out.below hby12v1)
  replace HC2 := Lib.hid (HC2.out.below hby12v1)
  replace HG5 := Lib.hid (HG5.out.below hby12v1)
  replace HD5 := Lib.hid (HD5.out.below hby12v1)
  clear hby12v1
  go_wp2_with fail
  refine hK.out _ _ (HS.out _ hT2) (fun hHeld => ?_)
  clear hK K
  try simp only [Act.put, sA, sB, sC]
  refine tkH 8 ⟨some 100, _, _, _, _, _⟩ ?_ rfl ?_ (by assumption) ?_
  rotate_left
  · (intro w hSw; (try dsimp only at hSw); go_simp; all_goals with_reducible rfl)
  try simp only [Act.put, sA, sB, sC]
  refine tkH 9 ⟨some 109, _, _, _, _, _⟩ ?_ rfl ?_ (by assumption) ?_
  rotate_left
  · (intro w hSw; (try dsimp only at hSw); go_simp; all_goals with_reducible rfl)
  try simp only [Act.put, sA, sB, sC]
  refine tkH 10 ⟨some 110, _, _, _, _, _⟩ ?_ rfl ?_ (by assumption) ?_
  rotate_left
  · (intro w hSw; (try dsimp only at hSw); go_simp; all_goals with_reducible rfl)
  try simp only [Act.put, sA, sB, sC]
  refine tkH 11 ⟨some 17, _, _, _, _, _⟩ ?_ rfl ?_ (by assumption) ?_
  rotate_left
  · (intro w hSw; (try dsimp only at hSw); go_simp; all_goals with_reducible rfl)
  try simp only [Act.put, sA, sB, sC]
  refine tkH 12 ⟨some 18, _, _, _, _, _⟩ ?_ rfl ?_ (by assumption) ?_
  rotate_left
  · (intro w hSw; (try dsimp only at hSw); go_simp; all_goals with_reducible rfl)
  try simp only [Act.put, sA, sB, sC]
  refine wpAnyH_done (by kernel_rfl) ?_ _
  have hc13 : Below y11v2.heap.size y11v2 y12v2 := hT2
  have hB13 : Below w.heap.size w y12v2 := hB12.trans (hc13.mono hB12.size)
  have zu13 := hB13.size
  replace PB := Lib.hid (PB.out.below hc13)
  replace RB := Lib.hid (RB.out.below hc13)
  replace TB := Lib.hid (TB.out.below hc13)
  replace QB := Lib.hid (QB.out.below hc13)
  clear PB_12_0 PB_12_1 PB_12_2 PB_12_3 lPB_12 nPB_12 mPB_12 RB_12_0 RB_12_1 RB_12_2 RB_12_3 RB_12_4 RB_12_5 RB_12_6 RB_12_7 RB_12_8 lRB_12 nRB_12 mRB_12 TB_12_0 TB_12_1 lTB_12 nTB_12 mTB_12 QB_12_0 QB_12_1 QB_12_2 QB_12_3 lQB_12 nQB_12 mQB_12
  clear HS hHeld hT0 hT1 hT2 hB12 zu12 hc12
  obtain ⟨PB_13_0, PB_13_1, PB_13_2, PB_13_3⟩ := b4 PB.out
  have lPB_13 := PB.out.lt
  have nPB_13 : y12v2.heap.size ≠ w.heap.size := by omega
  have mPB_13 : w.heap.size ≠ y12v2.heap.size := by omega
  obtain ⟨RB_13_0, RB_13_1, RB_13_2, RB_13_3, RB_13_4, RB_13_5, RB_13_6, RB_13_7, RB_13_8⟩ := b9 RB.out
  have lRB_13 := RB.out.lt
  have nRB_13 : y12v2.heap.size ≠ w.heap.size + 1 := by omega
  have mRB_13 : w.heap.size + 1 ≠ y12v2.heap.size := by omega
  obtain ⟨TB_13_0, TB_13_1⟩ := b2 TB.out
  have lTB_13 := TB.out.lt
  have nTB_13 : y12v2.heap.size ≠ w.heap.size + 1 + 1 := by omega
  have mTB_13 : w.heap.size + 1 + 1 ≠ y12v2.heap.size := by omega
  obtain ⟨QB_13_0, QB_13_1, QB_13_2, QB_13_3⟩ := b4 QB.out
  have lQB_13 := QB.out.lt
  have nQB_13 : y12v2.heap.size ≠ x7.heap.size := by omega
  have mQB_13 : x7.heap.size ≠ y12v2.heap.size := by omega
  clear HG5
  clear HD5
  obtain ⟨bk1, o1, rfl, l1, _⟩ := HC1.out.at' (k := k) (by rw [hn1.out]; omega)
  obtain ⟨bk2, o2, rfl, l2, _⟩ := HC2.out.at' (k := k) (by rw [hn2.out]; omega)
  have g1 := sl_intO HC1.out (k := k) (by rw [hn1.out]; omega) hu9.out
  have g2 := sl_intO HC2.out (k := k) (by rw [hn2.out]; omega) hv9.out
  have g3 := sl_intO HC2.out (k := k + 1) (by rw [hn2.out]; omega) ht9.out
  go_upto_region 15 with (fail)
  have HS : Hid (∀ y, Below y12v2.heap.size y12v2 y → y.cell? ⟨w.heap.size, 0, none⟩ = some (.string nm) ∧ y.cell? ⟨w.heap.size, 1, none⟩ = some (.int .i64 s) ∧ y.cell? ⟨w.heap.size, 2, none⟩ = some (.slice A gn gc) ∧ y.cell? ⟨w.heap.size, 3, none⟩ = some (.slice B dn dc) ∧ y.cell? ⟨w.heap.size + 1, 0, none⟩ = some (.slice AT tn tc) ∧ y.cell? ⟨w.heap.size + 1, 1, none⟩ = some (.int .i64 r.a) ∧ y.cell? ⟨w.heap.size + 1, 2, none⟩ = some (.int .i64 r.b) ∧ y.cell? ⟨w.heap.size + 1, 3, none⟩ = some (.int .i64 r.nc) ∧ y.cell? ⟨w.heap.size + 1, 4, none⟩ = some (.int .i64 r.dn) ∧ y.cell? ⟨w.heap.size + 1, 5, none⟩ = some (.int .i64 r.br) ∧ y.cell? ⟨w.heap.size + 1, 6, none⟩ = some (.int .i64 r.em) ∧ y.cell? ⟨w.heap.size + 1, 7, none⟩ = some (.int .i64 r.pa) ∧ y.cell? ⟨w.heap.size + 1, 8, none⟩ = some (.int .i64 r.sc) ∧ y.cell? ⟨w.heap.size + 1 + 1, 0, none⟩ = some (.int .i64 (k : Int)) ∧ y.cell? ⟨w.heap.size + 1 + 1, 1, none⟩ = some (.int .i64 a1) ∧ y.cell? ⟨x7.heap.size, 0, none⟩ = some (.string nm) ∧ y.cell? ⟨x7.heap.size, 1, none⟩ = some (.int .i64 s) ∧ y.cell? ⟨x7.heap.size, 2, none⟩ = some (.slice A9 gn ca) ∧ y.cell? ⟨x7.heap.size, 3, none⟩ = some (.slice B8 (dn + 1) cb) ∧ y.cell? ⟨bk1, o1 + k, none⟩ = some (.int .i64 u9) ∧ y.cell? ⟨bk2, o2 + k, none⟩ = some (.int .i64 v9) ∧ y.cell? ⟨bk2, o2 + (k + 1), none⟩ = some (.int .i64 t9)) := Lib.hid fun y hy => ⟨(hy.cell (p := ⟨w.heap.size, 0, none⟩) lPB_13).trans PB_13_0, (hy.cell (p := ⟨w.heap.size, 1, none⟩) lPB_13).trans PB_13_1, (hy.cell (p := ⟨w.heap.size, 2, none⟩) lPB_13).trans PB_13_2, (hy.cell (p := ⟨w.heap.size, 3, none⟩) lPB_13).trans PB_13_3, (hy.cell (p := ⟨w.heap.size + 1, 0, none⟩) lRB_13).trans RB_13_0, (hy.cell (p := ⟨w.heap.size + 1, 1, none⟩) lRB_13).trans RB_13_1, (hy.cell (p := ⟨w.heap.size + 1, 2, none⟩) lRB_13).trans RB_13_2, (hy.cell (p := ⟨w.heap.size + 1, 3, none⟩) lRB_13).trans RB_13_3, (hy.cell (p := ⟨w.heap.size + 1, 4, none⟩) lRB_13).trans RB_13_4, (hy.cell (p := ⟨w.heap.size + 1, 5, none⟩) lRB_13).trans RB_13_5, (hy.cell (p := ⟨w.heap.size + 1, 6, none⟩) lRB_13).trans RB_13_6, (hy.cell (p := ⟨w.heap.size + 1, 7, none⟩) lRB_13).trans RB_13_7, (hy.cell (p := ⟨w.heap.size + 1, 8, none⟩) lRB_13).trans RB_13_8, (hy.cell (p := ⟨w.heap.size + 1 + 1, 0, none⟩) lTB_13).trans TB_13_0, (hy.cell (p := ⟨w.heap.size + 1 + 1, 1, none⟩) lTB_13).trans TB_13_1, (hy.cell (p := ⟨x7.heap.size, 0, none⟩) lQB_13).trans QB_13_0, (hy.cell (p := ⟨x7.heap.size, 1, none⟩) lQB_13).trans QB_13_1, (hy.cell (p := ⟨x7.heap.size, 2, none⟩) lQB_13).trans QB_13_2, (hy.cell (p := ⟨x7.heap.size, 3, none⟩) lQB_13).trans QB_13_3, (hy.cell (p := ⟨bk1, o1 + k, none⟩) l1).trans g1, (hy.cell (p := ⟨bk2, o2 + k, none⟩) l2).trans g2, (hy.cell (p := ⟨bk2, o2 + (k + 1), none⟩) l2).trans g3⟩
  refine wp_region_held_drew (S := (fun w' => w'.cell? ⟨w.heap.size, 0, none⟩ = some (.string nm) ∧ w'.cell? ⟨w.heap.size, 1, none⟩ = some (.int .i64 s) ∧ w'.cell? ⟨w.heap.size, 2, none⟩ = some (.slice A gn gc) ∧ w'.cell? ⟨w.heap.size, 3, none⟩ = some (.slice B dn dc) ∧ w'.cell? ⟨w.heap.size + 1, 0, none⟩ = some (.slice AT tn tc) ∧ w'.cell? ⟨w.heap.size + 1, 1, none⟩ = some (.int .i64 r.a) ∧ w'.cell? ⟨w.heap.size + 1, 2, none⟩ = some (.int .i64 r.b) ∧ w'.cell? ⟨w.heap.size + 1, 3, none⟩ = some (.int .i64 r.nc) ∧ w'.cell? ⟨w.heap.size + 1, 4, none⟩ = some (.int .i64 r.dn) ∧ w'.cell? ⟨w.heap.size + 1, 5, none⟩ = some (.int .i64 r.br) ∧ w'.cell? ⟨w.heap.size + 1, 6, none⟩ = some (.int .i64 r.em) ∧ w'.cell? ⟨w.heap.size + 1, 7, none⟩ = some (.int .i64 r.pa) ∧ w'.cell? ⟨w.heap.size + 1, 8, none⟩ = some (.int .i64 r.sc) ∧ w'.cell? ⟨w.heap.size + 1 + 1, 0, none⟩ = some (.int .i64 (k : Int)) ∧ w'.cell? ⟨w.heap.size + 1 + 1, 1, none⟩ = some (.int .i64 a1) ∧ w'.cell? ⟨x7.heap.size, 0, none⟩ = some (.string nm) ∧ w'.cell? ⟨x7.heap.size, 1, none⟩ = some (.int .i64 s) ∧ w'.cell? ⟨x7.heap.size, 2, none⟩ = some (.slice A9 gn ca) ∧ w'.cell? ⟨x7.heap.size, 3, none⟩ = some (.slice B8 (dn + 1) cb) ∧ w'.cell? ⟨bk1, o1 + k, none⟩ = some (.int .i64 u9) ∧ w'.cell? ⟨bk2, o2 + k, none⟩ = some (.int .i64 v9) ∧ w'.cell? ⟨bk2, o2 + (k + 1), none⟩ = some (.int .i64 t9))) (by kernel_rfl) (HS.out _ (Below.refl _ _).drew) (fun hHeld => ?_)
  have hT0 : Below y12v2.heap.size y12v2 y12v2.drew := (Below.refl _ _).drew
  generalize hdr : y12v2.drew = y13v0 at *
  clear hdr
  refine tkH 0 ⟨some 145, _, _, _, _, _⟩ ?_ rfl ?_ (by assumption) ?_
  rotate_left
  · (intro w hSw; (try dsimp only at hSw); go_simp; all_goals with_reducible rfl)
  try simp only [Act.put, sA, sB, sC]
  refine tkH 1 ⟨some 146, _, _, _, _, _⟩ ?_ rfl ?_ (by assumption) ?_
  rotate_left
  · (intro w hSw; (try dsimp only at hSw); go_simp; all_goals with_reducible rfl)
  try simp only [Act.put, sA, sB, sC]
  refine tkH 2 ⟨some 147, _, _, _, _, _⟩ ?_ rfl ?_ (by assumption) ?_
  rotate_left
  · (intro w hSw; (try dsimp only at hSw); go_simp; all_goals with_reducible rfl)
  try simp only [Act.put, sA, sB, sC]
  refine tkH 3 ⟨some 148, _, _, _, _, _⟩ ?_ rfl ?_ (by assumption) ?_
  rotate_left
  · (intro w hSw; (try dsimp only at hSw); go_simp; all_goals with_reducible rfl)
  try simp only [Act.put, sA, sB, sC]
  refine tkH 4 ⟨some 149, _, _, _, _, _⟩ ?_ rfl ?_ (by assumption) ?_
  rotate_left
  · (intro w hSw; (try dsimp only at hSw); go_simp; all_goals with_reducible rfl)
  try simp only [Act.put, sA, sB, sC]
  refine tkH 5 ⟨some 150, _, _, _, _, _⟩ ?_ rfl ?_ (by assumption) ?_
  rotate_left
  · (intro w hSw; (try dsimp only at hSw); go_simp; all_goals with_reducible rfl)
  try simp only [Act.put, sA, sB, sC]
  refine tkH 6 ⟨some 151, _, _, _, _, _⟩ ?_ rfl ?_ (by assumption) ?_
  rotate_left
  · (intro w hSw; (try dsimp only at hSw); go_simp; all_goals with_reducible rfl)
  try simp only [Act.put, sA, sB, sC]
  refine tkH 7 ⟨some 152, _, _, _, _, _⟩ ?_ rfl ?_ (by assumption) ?_
  rotate_left
  · (intro w hSw; (try dsimp only at hSw); go_simp; all_goals with_reducible rfl)
  try simp only [Act.put, sA, sB, sC]
  refine tkH 8 ⟨some 153, _, _, _, _, _⟩ ?_ rfl ?_ (by assumption) ?_
  rotate_left
  · (intro w hSw; (try dsimp only at hSw); go_simp; all_goals with_reducible rfl)
  try simp only [Act.put, sA, sB, sC]
  refine tkH 9 ⟨some 154, _, _, _, _, _⟩ ?_ rfl ?_ (by assumption) ?_
  rotate_left
  · (intro w hSw; (try dsimp only at hSw); go_simp; all_goals with_reducible rfl)
  try simp only [Act.put, sA, sB, sC]
  refine tkH 10 ⟨some 155, _, _, _, _, _⟩ ?_ rfl ?_ (by assumption) ?_
  rotate_left
  · (intro w hSw; (try dsimp only at hSw); go_simp; all_goals with_reducible rfl)
  try simp only [Act.put, sA, sB, sC]
  refine tkH 11 ⟨some 156, _, _, _, _, _⟩ ?_ rfl ?_ (by assumption) ?_
  rotate_left
  · (intro w hSw; (try dsimp only at hSw); go_simp; all_goals with_reducible rfl)
  try simp only [Act.put, sA, sB, sC]
  refine tkH 12 ⟨some 157, _, _, _, _, _⟩ ?_ rfl ?_ (by assumption) ?_
  rotate_left
  · (intro w hSw; (try dsimp only at hSw); go_simp; all_goals with_reducible rfl)
  try simp only [Act.put, sA, sB, sC]
  refine tkH 13 ⟨some 158, _, _, _, _, _⟩ ?_ rfl ?_ (by assumption) ?_
  rotate_left
  · (intro w hSw; (try dsimp only at hSw); go_simp; all_goals with_reducible rfl)
  try simp only [Act.put, sA, sB, sC]
  refine tkH 14 ⟨some 159, _, _, _, _, _⟩ ?_ rfl ?_ (by assumption) ?_
  rotate_left
  · (intro w hSw; (try dsimp only at hSw); go_simp; all_goals with_reducible rfl)
  try simp only [Act.put, sA, sB, sC]
  refine tkH 15 ⟨some 160, _, _, _, _, _⟩ ?_ rfl ?_ (by assumption) ?_
  rotate_left
  · (intro w hSw; (try dsimp only at hSw); go_simp; all_goals with_reducible rfl)
  try simp only [Act.put, sA, sB, sC]
  refine tkH 16 ⟨some 161, _, _, _, _, _⟩ ?_ rfl ?_ (by assumption) ?_
  rotate_left
  · (intro w hSw; (try dsimp only at hSw); go_simp; all_goals with_reducible rfl)
  try simp only [Act.put, sA, sB, sC]
  refine tkH 17 ⟨some 19, _, _, _, _, _⟩ ?_ rfl ?_ (by assumption) ?_
  rotate_left
  · (intro w hSw; (try dsimp only at hSw); go_simp; all_goals with_reducible rfl)
  try simp only [Act.put, sA, sB, sC]
  refine tkH 18 ⟨some 20, _, _, _, _, _⟩ ?_ rfl ?_ (by assumption) ?_
  rotate_left
  · (intro w hSw; (try dsimp only at hSw); go_simp; all_goals with_reducible rfl)
  try simp only [Act.put, sA, sB, sC]
  refine wpAnyH_done (by kernel_rfl) ?_ _
  have hc14 : Below y12v2.heap.size y12v2 y13v0 := hT0
  have hB14 : Below w.heap.size w y13v0 := hB13.trans (hc14.mono hB13.size)
  have zu14 := hB14.size
  replace HC2 := Lib.hid (HC2.out.below hc14)
  replace HC1 := Lib.hid (HC1.out.below hc14)
  replace HG9 := Lib.hid (HG9.out.below hc14)
  replace HL9 := Lib.hid (HL9.out.below hc14)
  replace PB := Lib.hid (PB.out.below hc14)
  replace RB := Lib.hid (RB.out.below hc14)
  replace TB := Lib.hid (TB.out.below hc14)
  replace QB := Lib.hid (QB.out.below hc14)
  clear PB_13_0 PB_13_1 PB_13_2 PB_13_3 lPB_13 nPB_13 mPB_13 RB_13_0 RB_13_1 RB_13_2 RB_13_3 RB_13_4 RB_13_5 RB_13_6 RB_13_7 RB_13_8 lRB_13 nRB_13 mRB_13 TB_13_0 TB_13_1 lTB_13 nTB_13 mTB_13 QB_13_0 QB_13_1 QB_13_2 QB_13_3 lQB_13 nQB_13 mQB_13
  clear HS hHeld hT0 hB13 zu13 hc13
  obtain ⟨PB_14_0, PB_14_1, PB_14_2, PB_14_3⟩ := b4 PB.out
  have lPB_14 := PB.out.lt
  have nPB_14 : y13v0.heap.size ≠ w.heap.size := by omega
  have mPB_14 : w.heap.size ≠ y13v0.heap.size := by omega
  obtain ⟨RB_14_0, RB_14_1, RB_14_2, RB_14_3, RB_14_4, RB_14_5, RB_14_6, RB_14_7, RB_14_8⟩ := b9 RB.out
  have lRB_14 := RB.out.lt
  have nRB_14 : y13v0.heap.size ≠ w.heap.size + 1 := by omega
  have mRB_14 : w.heap.size + 1 ≠ y13v0.heap.size := by omega
  obtain ⟨TB_14_0, TB_14_1⟩ := b2 TB.out
  have lTB_14 := TB.out.lt
  have nTB_14 : y13v0.heap.size ≠ w.heap.size + 1 + 1 := by omega
  have mTB_14 : w.heap.size + 1 + 1 ≠ y13v0.heap.size := by omega
  obtain ⟨QB_14_0, QB_14_1, QB_14_2, QB_14_3⟩ := b4 QB.out
  have lQB_14 := QB.out.lt
  have nQB_14 : y13v0.heap.size ≠ x7.heap.size := by omega
  have mQB_14 : x7.heap.size ≠ y13v0.heap.size := by omega
  go_wp2_with fail
  refine (wB3 u9 0 1000000000000000 true _ hw1).mono ?_
  rintro e x15 ⟨rfl, hb15⟩
  have hc15 : Below y13v0.heap.size y13v0 x15 := hb15
  have hB15 : Below w.heap.size w x15 := hB14.trans (hc15.mono hB14.size)
  have zu15 := hB15.size
  replace HC2 := Lib.hid (HC2.out.below hc15)
  replace HC1 := Lib.hid (HC1.out.below hc15)
  replace HG9 := Lib.hid (HG9.out.below hc15)
  replace HL9 := Lib.hid (HL9.out.below hc15)
  replace PB := Lib.hid (PB.out.below hc15)
  replace RB := Lib.hid (RB.out.below hc15)
  replace TB := Lib.hid (TB.out.below hc15)
  replace QB := Lib.hid (QB.out.below hc15)
  clear PB_14_0 PB_14_1 PB_14_2 PB_14_3 lPB_14 nPB_14 mPB_14 RB_14_0 RB_14_1 RB_14_2 RB_14_3 RB_14_4 RB_14_5 RB_14_6 RB_14_7 RB_14_8 lRB_14 nRB_14 mRB_14 TB_14_0 TB_14_1 lTB_14 nTB_14 mTB_14 QB_14_0 QB_14_1 QB_14_2 QB_14_3 lQB_14 nQB_14 mQB_14
  clear hb15 hB14 zu14 hc14
  obtain ⟨PB_15_0, PB_15_1, PB_15_2, PB_15_3⟩ := b4 PB.out
  have lPB_15 := PB.out.lt
  have nPB_15 : x15.heap.size ≠ w.heap.size := by omega
  have mPB_15 : w.heap.size ≠ x15.heap.size := by omega
  obtain ⟨RB_15_0, RB_15_1, RB_15_2, RB_15_3, RB_15_4, RB_15_5, RB_15_6, RB_15_7, RB_15_8⟩ := b9 RB.out
  have lRB_15 := RB.out.lt
  have nRB_15 : x15.heap.size ≠ w.heap.size + 1 := by omega
  have mRB_15 : w.heap.size + 1 ≠ x15.heap.size := by omega
  obtain ⟨TB_15_0, TB_15_1⟩ := b2 TB.out
  have lTB_15 := TB.out.lt
  have nTB_15 : x15.heap.size ≠ w.heap.size + 1 + 1 := by omega
  have mTB_15 : w.heap.size + 1 + 1 ≠ x15.heap.size := by omega
  obtain ⟨QB_15_0, QB_15_1, QB_15_2, QB_15_3⟩ := b4 QB.out
  have lQB_15 := QB.out.lt
  have nQB_15 : x15.heap.size ≠ x7.heap.size := by omega
  have mQB_15 : x7.heap.size ≠ x15.heap.size := by omega
  go_wp2_with fail
  refine (wB3 (v9 + t9) u9 (u9 + 1) true _ hw2).mono ?_
  rintro e x16 ⟨rfl, hb16⟩
  have hc16 : Below x15.heap.size x15 x16 := hb16
  have hB16 : Below w.heap.size w x16 := hB15.trans (hc16.mono hB15.size)
  have zu16 := hB16.size
  replace HC2 := Lib.hid (HC2.out.below hc16)
  replace HC1 := Lib.hid (HC1.out.below hc16)
  replace HG9 := Lib.hid (HG9.out.below hc16)
  replace HL9 := Lib.hid (HL9.out.below hc16)
  replace PB := Lib.hid (PB.out.below hc16)
  replace RB := Lib.hid (RB.out.below hc16)
  replace TB := Lib.hid (TB.out.below hc16)
  replace QB := Lib.hid (QB.out.below hc16)
  clear PB_15_0 PB_15_1 PB_15_2 PB_15_3 lPB_15 nPB_15 mPB_15 RB_15_0 RB_15_1 RB_15_2 RB_15_3 RB_15_4 RB_15_5 RB_15_6 RB_15_7 RB_15_8 lRB_15 nRB_15 mRB_15 TB_15_0 TB_15_1 lTB_15 nTB_15 mTB_15 QB_15_0 QB_15_1 QB_15_2 QB_15_3 lQB_15 nQB_15 mQB_15
  clear hb16 hB15 zu15 hc15
  obtain ⟨PB_16_0, PB_16_1, PB_16_2, PB_16_3⟩ := b4 PB.out
  have lPB_16 := PB.out.lt
  have nPB_16 : x16.heap.size ≠ w.heap.size := by omega
  have mPB_16 : w.heap.size ≠ x16.heap.size := by omega
  obtain ⟨RB_16_0, RB_16_1, RB_16_2, RB_16_3, RB_16_4, RB_16_5, RB_16_6, RB_16_7, RB_16_8⟩ := b9 RB.out
  have lRB_16 := RB.out.lt
  have nRB_16 : x16.heap.size ≠ w.heap.size + 1 := by omega
  have mRB_16 : w.heap.size + 1 ≠ x16.heap.size := by omega
  obtain ⟨TB_16_0, TB_16_1⟩ := b2 TB.out
  have lTB_16 := TB.out.lt
  have nTB_16 : x16.heap.size ≠ w.heap.size + 1 + 1 := by omega
  have mTB_16 : w.heap.size + 1 + 1 ≠ x16.heap.size := by omega
  obtain ⟨QB_16_0, QB_16_1, QB_16_2, QB_16_3⟩ := b4 QB.out
  have lQB_16 := QB.out.lt
  have nQB_16 : x16.heap.size ≠ x7.heap.size := by omega
  have mQB_16 : x7.heap.size ≠ x16.heap.size := by omega
  go_wp2_with fail
  refine (wB3 x9 0 1000000000000000 true _ hw3).mono ?_
  rintro e x17 ⟨rfl, hb17⟩
  have hc17 : Below x16.heap.size x16 x17 := hb17
  have hB17 : Below w.heap.size w x17 := hB16.trans (hc17.mono hB16.size)
  have zu17 := hB17.size
  replace HC2 := Lib.hid (HC2.out.below hc17)
  replace HC1 := Lib.hid (HC1.out.below hc17)
  replace HG9 := Lib.hid (HG9.out.below hc17)
  replace HL9 := Lib.hid (HL9.out.below hc17)
  replace PB := Lib.hid (PB.out.below hc17)
  replace RB := Lib.hid (RB.out.below hc17)
  replace TB := Lib.hid (TB.out.below hc17)
  replace QB := Lib.hid (QB.out.below hc17)
  clear PB_16_0 PB_16_1 PB_16_2 PB_16_3 lPB_16 nPB_16 mPB_16 RB_16_0 RB_16_1 RB_16_2 RB_16_3 RB_16_4 RB_16_5 RB_16_6 RB_16_7 RB_16_8 lRB_16 nRB_16 mRB_16 TB_16_0 TB_16_1 lTB_16 nTB_16 mTB_16 QB_16_0 QB_16_1 QB_16_2 QB_16_3 lQB_16 nQB_16 mQB_16
  clear hb17 hB16 zu16 hc16
  obtain ⟨PB_17_0, PB_17_1, PB_17_2, PB_17_3⟩ := b4 PB.out
  have lPB_17 := PB.out.lt
  have nPB_17 : x17.heap.size ≠ w.heap.size := by omega
  have mPB_17 : w.heap.size ≠ x17.heap.size := by omega
  obtain ⟨RB_17_0, RB_17_1, RB_17_2, RB_17_3, RB_17_4, RB_17_5, RB_17_6, RB_17_7, RB_17_8⟩ := b9 RB.out
  have lRB_17 := RB.out.lt
  have nRB_17 : x17.heap.size ≠ w.heap.size + 1 := by omega
  have mRB_17 : w.heap.size + 1 ≠ x17.heap.size := by omega
  obtain ⟨TB_17_0, TB_17_1⟩ := b2 TB.out
  have lTB_17 := TB.out.lt
  have nTB_17 : x17.heap.size ≠ w.heap.size + 1 + 1 := by omega
  have mTB_17 : w.heap.size + 1 + 1 ≠ x17.heap.size := by omega
  obtain ⟨QB_17_0, QB_17_1, QB_17_2, QB_17_3⟩ := b4 QB.out
  have lQB_17 := QB.out.lt
  have nQB_17 : x17.heap.size ≠ x7.heap.size := by omega
  have mQB_17 : x7.heap.size ≠ x17.heap.size := by omega
  go_wp2_with fail
  refine (wB3 (y9 + z9) x9 (x9 + 1) true _ hw4).mono ?_
  rintro e x18 ⟨rfl, hb18⟩
  have hc18 : Below x17.heap.size x17 x18 := hb18
  have hB18 : Below w.heap.size w x18 := hB17.trans (hc18.mono hB17.size)
  have zu18 := hB18.size
  replace HC2 := Lib.hid (HC2.out.below hc18)
  replace HC1 := Lib.hid (HC1.out.below hc18)
  replace HG9 := Lib.hid (HG9.out.below hc18)
  replace HL9 := Lib.hid (HL9.out.below hc18)
  replace PB := Lib.hid (PB.out.below hc18)
  replace RB := Lib.hid (RB.out.below hc18)
  replace TB := Lib.hid (TB.out.below hc18)
  replace QB := Lib.hid (QB.out.below hc18)
  clear PB_17_0 PB_17_1 PB_17_2 PB_17_3 lPB_17 nPB_17 mPB_17 RB_17_0 RB_17_1 RB_17_2 RB_17_3 RB_17_4 RB_17_5 RB_17_6 RB_17_7 RB_17_8 lRB_17 nRB_17 mRB_17 TB_17_0 TB_17_1 lTB_17 nTB_17 mTB_17 QB_17_0 QB_17_1 QB_17_2 QB_17_3 lQB_17 nQB_17 mQB_17
  clear hb18 hB17 zu17 hc17
  obtain ⟨PB_18_0, PB_18_1, PB_18_2, PB_18_3⟩ := b4 PB.out
  have lPB_18 := PB.out.lt
  have nPB_18 : x18.heap.size ≠ w.heap.size := by omega
  have mPB_18 : w.heap.size ≠ x18.heap.size := by omega
  obtain ⟨RB_18_0, RB_18_1, RB_18_2, RB_18_3, RB_18_4, RB_18_5, RB_18_6, RB_18_7, RB_18_8⟩ := b9 RB.out
  have lRB_18 := RB.out.lt
  have nRB_18 : x18.heap.size ≠ w.heap.size + 1 := by omega
  have mRB_18 : w.heap.size + 1 ≠ x18.heap.size := by omega
  obtain ⟨TB_18_0, TB_18_1⟩ := b2 TB.out
  have lTB_18 := TB.out.lt
  have nTB_18 : x18.heap.size ≠ w.heap.size + 1 + 1 := by omega
  have mTB_18 : w.heap.size + 1 + 1 ≠ x18.heap.size := by omega
  obtain ⟨QB_18_0, QB_18_1, QB_18_2, QB_18_3⟩ := b4 QB.out
  have lQB_18 := QB.out.lt
  have nQB_18 : x18.heap.size ≠ x7.heap.size := by omega
  have mQB_18 : x7.heap.size ≠ x18.heap.size := by omega
  go_wp2
  go_ret
  exact ⟨rfl, hB18⟩
theorem upE_leS {n d K : Int} (d0 : 0 < d) (h : n ≤ d * K) : upE n d ≤ K := by
  have h2 : (d * K + (d - 1)) / d = K := by
    rw [Int.add_comm, Int.add_mul_ediv_left _ _ (by omega), Int.ediv_eq_zero_of_lt (by omega) (by omega)]; omega
  exact Int.le_trans (Int.ediv_le_ediv d0 (by omega)) (Int.le_of_eq h2)
theorem brV_mx {x : Pl} {b : Int} (h : PlOk x) (b0 : 1 ≤ b) (b1 : b ≤ 100000) : 0 ≤ brV x b ∧ brV x b ≤ 1000000000000000 := by
  have h1 := br_bd h b0 b1
  refine ⟨(brV_bd h b0 b1).1, ?_⟩
  unfold brV
  exact upE_leS (by omega) (by omega)
theorem mapR_getD (f : Nat → Int) {n k : Nat} (hk : k < n) : ((List.range n).map f).getD k 0 = f k := by simp [List.getD_eq_getElem?_getD, List.getElem?_map, List.getElem?_range hk]
theorem inB_t {n a b : Int} (h : a ≤ n) (h2 : n ≤ b) : inB n a b = true := inB_iff.2 ⟨h, h2⟩
theorem lgE_t {k n : Nat} (h : k < n) : lgE (k : Int) n = 0 := by unfold lgE; rw [if_pos (inB_t (by omega) (by omega))]
theorem legB (nm : ByteArray) (s : Int) (G : List Ga) (D : List Le) (gn dn k : Nat) (kI b : Int) (N : Nat) (hkI : kI = (k : Int)) (hz : nm.size ≤ 9223372036854775807) (hgn : Hid (gn = G.length)) (hgl : gn ≤ 9223372036854775807) (hdn : Hid (dn = D.length)) (hdl : dn ≤ 9223372036854775807) (hE0 : Hid (plnP nm s G D = (N, 0))) (hb : 1 ≤ b ∧ b ≤ 100000) (hk : k < dn) (A : Option Addr) (ca : Nat) (B : Option Addr) (cb : Nat) (X : World) (hG : Hid (SlRows gaV 2 X A G)) (hD : Hid (SlRows leV 3 X B D)) :
    Calls Try.prog 31 #[.agg #[.string nm, .int .i64 s, .slice A gn ca, .slice B dn cb], .int .i64 kI, .int .i64 b] X fun e w' => e = .returned (.tuple #[.int .i64 (brV (legK s G D k) b), .int .i64 0]) ∧ Below X.heap.size X w' := by
  subst hkI
  have h := cl_good (LegBreath_any nm s G D A B gn ca dn cb (k : Int) b N 0 0 0 X hz hgn hgl hdn hdl hG hD hE0 (Lib.hid (rngE_t (inB_t hb.1 hb.2))) (Lib.hid (by rw [lgE_t hk]; rfl))) rfl
  rwa [Int.toNat_natCast] at h
theorem exposureSplits_r (nm : ByteArray) (s : Int) (G : List Ga) (D : List Le) (A B : Option Addr) (gn gc dn dc : Nat) (T : List Ox) (r : Ru) (AT : Option Addr) (tn tc : Nat) (a0 a1 : Int) (w : World) (hz : nm.size ≤ 9223372036854775807) (hgn : Hid (gn = G.length)) (hgl : gn ≤ 9223372036854775807) (hdn : Hid (dn = D.length)) (hdl : dn ≤ 9223372036854775807) (hG : Hid (SlRows gaV 2 w A G)) (hD : Hid (SlRows leV 3 w B D)) (CG : Hid (A = none → gn = 0 ∧ gc = 0)) (CD : Hid (B = none → dn = 0 ∧ dc = 0)) (htn : Hid (tn = T.length)) (htl : tn ≤ 9223372036854775807) (hT : Hid (SlRows oxV 2 w AT T)) (CT : Hid (AT = none → tn = 0 ∧ tc = 0)) (hdc : Hid (dn ≤ dc)) :
    Calls Try.prog 5 #[.agg #[.string nm, .int .i64 s, .slice A gn gc, .slice B dn dc], .agg #[.slice AT tn tc, .int .i64 r.a, .int .i64 r.b, .int .i64 r.nc, .int .i64 r.dn, .int .i64 r.br, .int .i64 r.em, .int .i64 r.pa, .int .i64 r.sc], .agg #[.int .i64 a0, .int .i64 a1]] w fun e w' => e = .returned (.bool true) ∧ Below w.heap.size w w' := by
  obtain ⟨N, E0, hE0⟩ : ∃ N E0, plnP nm s G D = (N, E0) := ⟨_, _, rfl⟩
  obtain ⟨E1, hE1⟩ : ∃ z, ruE T r = z := ⟨_, rfl⟩
  cases hS : shortB nm.size dn gn with
  | false => exact sp_short nm s G D A B gn gc dn dc T r AT tn tc a0 a1 w hz hgn hgl hdn hdl hG hD CG CD htn htl hT CT (Lib.hid hS)
  | true =>
    cases hF : fewB tn with
    | false => exact sp_few nm s G D A B gn gc dn dc T r AT tn tc a0 a1 w hz hgn hgl hdn hdl hG hD CG CD htn htl hT CT (Lib.hid hS) (Lib.hid hF)
    | true =>
      by_cases h3 : firE [E0, E1] = 0
      · have ha := firE_all h3
        obtain rfl : E0 = 0 := ha _ (by simp)
        obtain rfl : E1 = 0 := ha _ (by simp)
        have hok := pln_ok hE0
        have hru := ru_ok hE1
        cases hi0 : inB a0 0 ((dn : Int) - 1) with
        | false => exact sp_leg nm s G D A B gn gc dn dc T r AT tn tc a0 a1 N w hz hgn hgl hdn hdl hG hD CG CD htn htl hT CT (Lib.hid hS) (Lib.hid hF) (Lib.hid hE0) (Lib.hid hE1) (Lib.hid rfl) (Lib.hid hi0)
        | true =>
          cases hi1 : inB a1 0 1000000 with
          | false => exact sp_sec nm s G D A B gn gc dn dc T r AT tn tc a0 a1 N w hz hgn hgl hdn hdl hG hD CG CD htn htl hT CT (Lib.hid hS) (Lib.hid hF) (Lib.hid hE0) (Lib.hid hE1) (Lib.hid rfl) (Lib.hid hi0) (Lib.hid hi1)
          | true =>
            have hq0 := inB_iff.1 hi0
            obtain ⟨k, ha0⟩ : ∃ k : Nat, a0 = (k : Int) := ⟨a0.toNat, by omega⟩
            subst ha0
            have hk : k < dn := by omega
            by_cases hb : 0 < a1 ∧ a1 < (legK s G D k).s ∧ mdI (((legK s G D k).d - (legK s G D k).bd) * a1) (legK s G D k).s = 0
            · have hdD := hdn.out
              have hkD : k < D.length := by omega
              have hp := legK_ok hok hkD
              have hp1 := hp.s
              have hp2 := hp.d
              have hp3 := hp.bd
              obtain ⟨b0, b1, b2⟩ := hb
              obtain ⟨m, hm⟩ := mdI_z hp.s.1 b2
              have hmb := mid_bd b0 b1 hp.bd.1 hp.bd.2 hp.d.1 hp.d.2 hm
              have hd60 := hok.d6
              have hd8 : dn ≤ 8 := by
                have h := hS
                unfold shortB at h
                simp only [Bool.and_eq_true, Bool.or_eq_true, decide_eq_true_eq] at h
                omega
              have hs : (legK s G D k).s = D[k].s := by show (D.getD k default).s = _; rw [getD_leE hkD]
              have hd : (legK s G D k).d = D[k].d := by show (D.getD k default).d = _; rw [getD_leE hkD]
              have hsb := shortB_le hS
              have hL := div_leg (s := s) (G := G) hkD a1 ((legK s G D k).bd + m) ((legK s G D k).s - a1)
              have hok9 : PlnOk nm s G (divL D k a1 ((legK s G D k).bd + m) ((legK s G D k).s - a1) D[k].d D[k].g) := div_ok hok hkD (by omega) (by omega) (by omega) hmb.2.2.1 hmb.2.2.2 (by omega)
              have hlen := divL_len hkD a1 ((legK s G D k).bd + m) ((legK s G D k).s - a1) D[k].d D[k].g
              have hDIV : Hid (∀ X : World, Hid (SlRows gaV 2 X A G) → Hid (SlRows leV 3 X B D) → Calls Try.prog 30 #[.agg #[.string nm, .int .i64 s, .slice A gn gc, .slice B dn dc], .int .i64 (k : Int), .int .i64 a1] X (DivP nm s G (divL D k a1 ((legK s G D k).bd + m) ((legK s G D k).s - a1) D[k].d D[k].g) gn dn true X)) := Lib.hid fun X hGX hDX => by
                have h := divided_good nm s G D A B gn gc dn dc k a1 m _ _ D[k].d D[k].g X hz hgn (by omega) hdn (by omega) hGX hDX CG CD (Lib.hid hok) hdc hk b0 b1 (Lib.hid hm) (Lib.hid b2) rfl rfl hd (by rw [getD_leE hkD])
                rwa [show decide ((dn : Int) + 1 ≤ 60) = true from decide_eq_true (by omega)] at h
              obtain ⟨D9, hD9⟩ : ∃ z, divL D k a1 ((legK s G D k).bd + m) ((legK s G D k).s - a1) D[k].d D[k].g = z := ⟨_, rfl⟩
              rw [hD9] at hL hok9 hlen hDIV
              clear hD9
              obtain ⟨e1, e2, e3, e4, e5, f1, f2, f3, f4, f5⟩ := hL
              have hE9 := pln_of_ok hok9
              have hl9 : dn + 1 = D9.length := by omega
              obtain ⟨c1, c2, c3⟩ := clkX_split hru.ox hp (show 1 ≤ a1 by omega) b1 hm e1 e2 e3 e4 e5 f1 f2 f3 f4 f5
              obtain ⟨g1, g2⟩ := brV_split hp hru.br.1 hru.br.2 hm e1 e2 e3 e4 f1 f2 f3 f4
              have g3 := brV_mx hp hru.br.1 hru.br.2
              obtain ⟨N9, hN9⟩ : ∃ z : Nat, plnP nm s G D9 = (z, 0) := ⟨_, hE9⟩
              exact sp_good nm s G D A B gn gc dn dc T r AT tn tc a1 N k _ _ (clkX T (legK s G D k)) (clkX T (legK s G D9 k)) (clkX T (legK s G D9 (k + 1))) (brV (legK s G D k) r.br) (brV (legK s G D9 k) r.br) (brV (legK s G D9 (k + 1)) r.br) D9 w hz hgn hgl hdn hdl hG hD CG CD htn htl hT CT (Lib.hid hS) (Lib.hid hF) (Lib.hid hE0) (Lib.hid hE1) (Lib.hid rfl) (Lib.hid hi0) (Lib.hid hi1) hk (Lib.hid hl9) hDIV (Lib.hid hE9) (Lib.hid rfl) (Lib.hid rfl) (Lib.hid (by simp)) (Lib.hid (by simp))
                (Lib.hid (legB nm s G D gn dn k _ r.br N rfl hz hgn hgl hdn hdl (Lib.hid hE0) hru.br hk)) (Lib.hid (legB nm s G D9 gn (dn + 1) k _ r.br 0 rfl hz hgn hgl (Lib.hid hl9) (by omega) (Lib.hid hE9) hru.br (by omega))) (Lib.hid (legB nm s G D9 gn (dn + 1) (k + 1) _ r.br 0 (by omega) hz hgn hgl (Lib.hid hl9) (by omega) (Lib.hid hE9) hru.br (by omega)))
                (Lib.hid (mapR_getD _ hk)) (Lib.hid (mapR_getD _ (by omega))) (Lib.hid (mapR_getD _ (by omega))) (Lib.hid (inB_t (by omega) (by omega))) (Lib.hid (inB_t (by omega) (by omega))) (Lib.hid (inB_t (by omega) (by omega))) (Lib.hid (inB_t (by omega) (by omega))) (IntWalk.i64_in _ (by omega)) (IntWalk.i64_in _ (by omega)) (IntWalk.i64_in _ (by omega)) (IntWalk.i64_in _ (by omega))
            · exact sp_bad nm s G D A B gn gc dn dc T r AT tn tc a1 N k w hz hgn hgl hdn hdl hG hD CG CD htn htl hT CT (Lib.hid hS) (Lib.hid hF) (Lib.hid hE0) (Lib.hid hE1) (Lib.hid rfl) (Lib.hid hi0) (Lib.hid hi1) hk (Lib.hid hb)
      · exact sp_err nm s G D A B gn gc dn dc T r AT tn tc a0 a1 N E0 E1 _ w hz hgn hgl hdn hdl hG hD CG CD htn htl hT CT (Lib.hid hS) (Lib.hid hF) (Lib.hid hE0) (Lib.hid hE1) (Lib.hid rfl) (by simpa using h3)
theorem nilCap {α : Type} {f : α → List Value} {k : Nat} {w : World} {A : Option Addr} {L : List α} {c : Nat} (h : SlRows f k w A L) (hn : A = none → c = 0) : A = none → L.length = 0 ∧ c = 0 := fun e => by
  rcases h with h | ⟨b, o, h, _⟩
  · exact ⟨by rw [h]; rfl, hn e⟩
  · rw [e] at h; cases h
theorem exposureSplits_any (nm : ByteArray) (s : Int) (G : List Ga) (GA : Option Addr) (gc : Nat) (D : List Le) (DA : Option Addr) (dc : Nat) (T : List Ox) (A : Option Addr) (cap : Nat) (ra rb rnc rdn rbr rem rpa rsc : Int) (a0 a1 : Int) (w : World) (hnm : nm.size ≤ 9223372036854775807) (hGl : G.length ≤ 9223372036854775807) (hGn : GA = none → gc = 0) (hGs : SlRows gaV 2 w GA G) (hDl : D.length ≤ 9223372036854775807) (hDn : DA = none → dc = 0) (hDs : SlRows leV 3 w DA D) (hDc : D.length ≤ dc) (hDm : dc ≤ 9223372036854775807) (hTl : T.length ≤ 9223372036854775807) (hTn : A = none → cap = 0) (hTs : SlRows oxV 2 w A T) :
    Calls Try.prog 5 #[.agg #[.string nm, .int .i64 s, .slice GA G.length gc, .slice DA D.length dc], .agg #[.slice A T.length cap, .int .i64 ra, .int .i64 rb, .int .i64 rnc, .int .i64 rdn, .int .i64 rbr, .int .i64 rem, .int .i64 rpa, .int .i64 rsc], .agg #[.int .i64 a0, .int .i64 a1]] w fun e w' => e = .returned (.bool true) ∧ Below w.heap.size w w' := by
  exact exposureSplits_r nm s G D GA DA G.length gc D.length dc T ⟨ra, rb, rnc, rdn, rbr, rem, rpa, rsc⟩ A T.length cap a0 a1 w hnm (Lib.hid rfl) hGl (Lib.hid rfl) hDl (Lib.hid hGs) (Lib.hid hDs) (Lib.hid (nilCap hGs hGn)) (Lib.hid (nilCap hDs hDn)) (Lib.hid rfl) hTl (Lib.hid hTs) (Lib.hid (nilCap hTs hTn)) (Lib.hid hDc)
end Go.Proofs.Ytijdphlejokijaa
