import Derived.Test.YtijdphlejokijaaEBBEBks
import Derived.Outline
namespace Go.Proofs.Ytijdphlejokijaa
open Go.ChangeShapes Go.WideShapes Go.ChangeAt Go.RowKit
set_option linter.unusedVariables false
set_option linter.unusedSimpArgs false
attribute [local go_sem ↓] Go.wp_at_zero Go.wp_at_succ
theorem clB {P : Program} {f : FuncId} {args : Array Value} {w : World} {E : Int} {R Q : Ending → World → Prop} (h : Calls P f args w fun e w' => (¬ E = 0 ∧ R e w') ∨ (E = 0 ∧ Q e w')) (h0 : ¬ E = 0) : Calls P f args w R := h.mono fun e w' h => h.elim (fun h => h.2) (fun h => absurd h.1 h0)
theorem clG {P : Program} {f : FuncId} {args : Array Value} {w : World} {E : Int} {R Q : Ending → World → Prop} (h : Calls P f args w fun e w' => (¬ E = 0 ∧ R e w') ∨ (E = 0 ∧ Q e w')) (h0 : E = 0) : Calls P f args w Q := h.mono fun e w' h => h.elim (fun h => absurd h0 h.1) (fun h => h.2)
set_option maxRecDepth 100000 in
set_option maxHeartbeats 4000000 in
theorem FirstWrong_any (nm : ByteArray) (s : Int) (G : List Ga) (D : List Le) (A B : Option Addr) (gn gc dn dc N0 : Nat) (E0 : Int) (T : List Ox) (r : Ru) (AT : Option Addr) (tn tc : Nat) (E1 E : Int) (w : World) (hz : nm.size ≤ 9223372036854775807) (hgn : Hid (gn = G.length)) (hgl : gn ≤ 9223372036854775807) (hdn : Hid (dn = D.length)) (hdl : dn ≤ 9223372036854775807) (hG : Hid (SlRows gaV 2 w A G)) (hD : Hid (SlRows leV 3 w B D)) (hE0 : Hid (plnP nm s G D = (N0, E0)))
    (htn : Hid (tn = T.length)) (htl : tn ≤ 9223372036854775807) (hT : Hid (SlRows oxV 2 w AT T)) (hE1 : Hid (ruE T r = E1)) (hE : Hid (firE [E0, E1] = E)) :
    Calls Try.prog 35 #[.agg #[.string nm, .int .i64 s, .slice A gn gc, .slice B dn dc], .agg #[.slice AT tn tc, .int .i64 r.a, .int .i64 r.b, .int .i64 r.nc, .int .i64 r.dn, .int .i64 r.br, .int .i64 r.em, .int .i64 r.pa, .int .i64 r.sc]] w fun e w' =>
      (¬ E = 0 ∧ e = .returned (.tuple #[.int .i64 0, .int .i64 E]) ∧ Below w.heap.size w w') ∨
      (E = 0 ∧ e = .returned (.tuple #[.int .i64 ((bkL r (legC s G D) (List.range dn)).headD (0, 0)).1, .int .i64 (if (bkL r (legC s G D) (List.range dn)) = [] then 12 else 0)]) ∧ Below w.heap.size w w') := by
  obtain ⟨L, hL⟩ : ∃ z, Hid ((bkL r (legC s G D) (List.range dn)) = z) := ⟨_, Lib.hid rfl⟩
  rw [hL.out]
  obtain ⟨f9, hf9⟩ : ∃ z : Int, Hid ((L.headD (0, 0)).1 = z) := ⟨_, Lib.hid rfl⟩
  obtain ⟨z9, hz9⟩ : ∃ z : Int, Hid ((if L = [] then (12 : Int) else 0) = z) := ⟨_, Lib.hid rfl⟩
  rw [hf9.out, hz9.out]
  by_cases h0 : ¬ E = 0
  · have hE3 : (E != 0) = true := by simpa using h0
    go_enter Try.func35, Try.ntmps35
    go_wp2_with fail
    refine (clB (Breaks_any nm s G D A B gn gc dn dc N0 E0 T r AT tn tc E1 E _ hz hgn hgl hdn hdl (Lib.hid (hG.out.below (by (repeat (first | (with_reducible refine Below.drew ?_) | (with_reducible refine below_drewN ?_ _) | (with_reducible refine Below.alloc ?_ (by first | omega | (simp; done) | (simp; omega) | (simp at *; omega)) _) | (with_reducible refine Below.setCell ?_ (by first | omega | (simp; done) | (simp; omega) | (simp at *; omega)) _) | (with_reducible exact Below.refl _ _) | (with_reducible assumption) | (with_reducible refine Below.trans ?_ (Below.mono (by assumption) (by first | omega | (simp; done) | (simp; omega) | (simp at *; omega))))))))) (Lib.hid (hD.out.below (by (repeat (first | (with_reducible refine Below.drew ?_) | (with_reducible refine below_drewN ?_ _) | (with_reducible refine Below.alloc ?_ (by first | omega | (simp; done) | (simp; omega) | (simp at *; omega)) _) | (with_reducible refine Below.setCell ?_ (by first | omega | (simp; done) | (simp; omega) | (simp at *; omega)) _) | (with_reducible exact Below.refl _ _) | (with_reducible assumption) | (with_reducible refine Below.trans ?_ (Below.mono (by assumption) (by first | omega | (simp; done) | (simp; omega) | (simp at *; omega))))))))) hE0 htn htl (Lib.hid (hT.out.below (by (repeat (first | (with_reducible refine Below.drew ?_) | (with_reducible refine below_drewN ?_ _) | (with_reducible refine Below.alloc ?_ (by first | omega | (simp; done) | (simp; omega) | (simp at *; omega)) _) | (with_reducible refine Below.setCell ?_ (by first | omega | (simp; done) | (simp; omega) | (simp at *; omega)) _) | (with_reducible exact Below.refl _ _) | (with_reducible assumption) | (with_reducible refine Below.trans ?_ (Below.mono (by assumption) (by first | omega | (simp; done) | (simp; omega) | (simp at *; omega))))))))) hE1 hE) h0).mono ?_
    rintro e x1 ⟨rfl, hb1⟩
    have hc1 : Below w.heap.size w x1 := (((Below.refl _ _).alloc (by first | exact Nat.le_refl _ | (simp; done) | (simp; omega)) _).alloc (by first | exact Nat.le_refl _ | (simp; done) | (simp; omega)) _).trans (hb1.mono (by first | exact Nat.le_refl _ | (simp; done) | (simp; omega)))
    have hB1 : Below w.heap.size w x1 := hc1
    have zu1 := hB1.size
    have PB : Hid (BlkF x1 w.heap.size (w.heap.size) [.string nm, .int .i64 s, .slice A gn gc, .slice B dn dc]) := Lib.hid (((BlkF.made (B := w.heap.size) w [.string nm, .int .i64 s, .slice A gn gc, .slice B dn dc] 40 (by first | exact Nat.le_refl _ | (simp; done) | (simp; omega))).below ((Below.refl _ _).alloc (Nat.le_refl _) _)).below hb1)
    have zPB1 := PB.out.lt
    have RB : Hid (BlkF x1 w.heap.size (w.heap.size + 1) [.slice AT tn tc, .int .i64 r.a, .int .i64 r.b, .int .i64 r.nc, .int .i64 r.dn, .int .i64 r.br, .int .i64 r.em, .int .i64 r.pa, .int .i64 r.sc]) := Lib.hid (by have := (BlkF.made (B := w.heap.size) (w.alloc (.cells #[.string nm, .int .i64 s, .slice A gn gc, .slice B dn dc] 40)) [.slice AT tn tc, .int .i64 r.a, .int .i64 r.b, .int .i64 r.nc, .int .i64 r.dn, .int .i64 r.br, .int .i64 r.em, .int .i64 r.pa, .int .i64 r.sc] 26 (by first | exact Nat.le_refl _ | (simp; done) | (simp; omega))).below hb1; simpa using this)
    have zRB1 := RB.out.lt
    clear hb1
    obtain ⟨PB_1_0, PB_1_1, PB_1_2, PB_1_3⟩ := b4 PB.out
    have lPB_1 := PB.out.lt
    have nPB_1 : x1.heap.size ≠ w.heap.size := by omega
    have mPB_1 : w.heap.size ≠ x1.heap.size := by omega
    obtain ⟨RB_1_0, RB_1_1, RB_1_2, RB_1_3, RB_1_4, RB_1_5, RB_1_6, RB_1_7, RB_1_8⟩ := b9 RB.out
    have lRB_1 := RB.out.lt
    have nRB_1 : x1.heap.size ≠ w.heap.size + 1 := by omega
    have mRB_1 : w.heap.size + 1 ≠ x1.heap.size := by omega
    go_wp2
    go_ret2
    first | exact Or.inl ⟨h0, rfl, hB1⟩ | exact ⟨rfl, hB1⟩ | (simp [h0]; exact hB1)
  · obtain rfl : E = 0 := by omega
    cases L with
    | nil =>
      obtain rfl : f9 = 0 := hf9.out.symm
      obtain rfl : z9 = 12 := hz9.out.symm
      go_enter Try.func35, Try.ntmps35
      go_wp2_with fail
      refine (clG (Breaks_any nm s G D A B gn gc dn dc N0 E0 T r AT tn tc E1 0 _ hz hgn hgl hdn hdl (Lib.hid (hG.out.below (by (repeat (first | (with_reducible refine Below.drew ?_) | (with_reducible refine below_drewN ?_ _) | (with_reducible refine Below.alloc ?_ (by first | omega | (simp; done) | (simp; omega) | (simp at *; omega)) _) | (with_reducible refine Below.setCell ?_ (by first | omega | (simp; done) | (simp; omega) | (simp at *; omega)) _) | (with_reducible exact Below.refl _ _) | (with_reducible assumption) | (with_reducible refine Below.trans ?_ (Below.mono (by assumption) (by first | omega | (simp; done) | (simp; omega) | (simp at *; omega))))))))) (Lib.hid (hD.out.below (by (repeat (first | (with_reducible refine Below.drew ?_) | (with_reducible refine below_drewN ?_ _) | (with_reducible refine Below.alloc ?_ (by first | omega | (simp; done) | (simp; omega) | (simp at *; omega)) _) | (with_reducible refine Below.setCell ?_ (by first | omega | (simp; done) | (simp; omega) | (simp at *; omega)) _) | (with_reducible exact Below.refl _ _) | (with_reducible assumption) | (with_reducible refine Below.trans ?_ (Below.mono (by assumption) (by first | omega | (simp; done) | (simp; omega) | (simp at *; omega))))))))) hE0 htn htl (Lib.hid (hT.out.below (by (repeat (first | (with_reducible refine Below.drew ?_) | (with_reducible refine below_drewN ?_ _) | (with_reducible refine Below.alloc ?_ (by first | omega | (simp; done) | (simp; omega) | (simp at *; omega)) _) | (with_reducible refine Below.setCell ?_ (by first | omega | (simp; done) | (simp; omega) | (simp at *; omega)) _) | (with_reducible exact Below.refl _ _) | (with_reducible assumption) | (with_reducible refine Below.trans ?_ (Below.mono (by assumption) (by first | omega | (simp; done) | (simp; omega) | (simp at *; omega))))))))) hE1 hE) rfl).mono ?_
      rintro e x1 ⟨C, c9, rfl, hs, hb1⟩
      have hc1 : Below w.heap.size w x1 := (((Below.refl _ _).alloc (by first | exact Nat.le_refl _ | (simp; done) | (simp; omega)) _).alloc (by first | exact Nat.le_refl _ | (simp; done) | (simp; omega)) _).trans (hb1.mono (by first | exact Nat.le_refl _ | (simp; done) | (simp; omega)))
      have hB1 : Below w.heap.size w x1 := hc1
      have zu1 := hB1.size
      have PB : Hid (BlkF x1 w.heap.size (w.heap.size) [.string nm, .int .i64 s, .slice A gn gc, .slice B dn dc]) := Lib.hid (((BlkF.made (B := w.heap.size) w [.string nm, .int .i64 s, .slice A gn gc, .slice B dn dc] 40 (by first | exact Nat.le_refl _ | (simp; done) | (simp; omega))).below ((Below.refl _ _).alloc (Nat.le_refl _) _)).below hb1)
      have zPB1 := PB.out.lt
      have RB : Hid (BlkF x1 w.heap.size (w.heap.size + 1) [.slice AT tn tc, .int .i64 r.a, .int .i64 r.b, .int .i64 r.nc, .int .i64 r.dn, .int .i64 r.br, .int .i64 r.em, .int .i64 r.pa, .int .i64 r.sc]) := Lib.hid (by have := (BlkF.made (B := w.heap.size) (w.alloc (.cells #[.string nm, .int .i64 s, .slice A gn gc, .slice B dn dc] 40)) [.slice AT tn tc, .int .i64 r.a, .int .i64 r.b, .int .i64 r.nc, .int .i64 r.dn, .int .i64 r.br, .int .i64 r.em, .int .i64 r.pa, .int .i64 r.sc] 26 (by first | exact Nat.le_refl _ | (simp; done) | (simp; omega))).below hb1; simpa using this)
      have zRB1 := RB.out.lt
      rw [hL.out] at hs
      rw [hL.out]
      have HS := Lib.hid hs
      clear hs
      have hln : (([] : List (Int × Int)).length : Int) = 0 := rfl
      clear hb1
      obtain ⟨PB_1_0, PB_1_1, PB_1_2, PB_1_3⟩ := b4 PB.out
      have lPB_1 := PB.out.lt
      have nPB_1 : x1.heap.size ≠ w.heap.size := by omega
      have mPB_1 : w.heap.size ≠ x1.heap.size := by omega
      obtain ⟨RB_1_0, RB_1_1, RB_1_2, RB_1_3, RB_1_4, RB_1_5, RB_1_6, RB_1_7, RB_1_8⟩ := b9 RB.out
      have lRB_1 := RB.out.lt
      have nRB_1 : x1.heap.size ≠ w.heap.size + 1 := by omega
      have mRB_1 : w.heap.size + 1 ≠ x1.heap.size := by omega
      go_wp2
      go_ret2
      first | exact Or.inr ⟨rfl, rfl, hB1⟩ | exact ⟨rfl, hB1⟩ | (simp; exact hB1)
    | cons x l =>
      obtain rfl : f9 = x.1 := hf9.out.symm
      obtain rfl : z9 = 0 := by rw [← hz9.out]; rfl
      go_enter Try.func35, Try.ntmps35
      go_wp2_with fail
      refine (clG (Breaks_any nm s G D A B gn gc dn dc N0 E0 T r AT tn tc E1 0 _ hz hgn hgl hdn hdl (Lib.hid (hG.out.below (by (repeat (first | (with_reducible refine Below.drew ?_) | (with_reducible refine below_drewN ?_ _) | (with_reducible refine Below.alloc ?_ (by first | omega | (simp; done) | (simp; omega) | (simp at *; omega)) _) | (with_reducible refine Below.setCell ?_ (by first | omega | (simp; done) | (simp; omega) | (simp at *; omega)) _) | (with_reducible exact Below.refl _ _) | (with_reducible assumption) | (with_reducible refine Below.trans ?_ (Below.mono (by assumption) (by first | omega | (simp; done) | (simp; omega) | (simp at *; omega))))))))) (Lib.hid (hD.out.below (by (repeat (first | (with_reducible refine Below.drew ?_) | (with_reducible refine below_drewN ?_ _) | (with_reducible refine Below.alloc ?_ (by first | omega | (simp; done) | (simp; omega) | (simp at *; omega)) _) | (with_reducible refine Below.setCell ?_ (by first | omega | (simp; done) | (simp; omega) | (simp at *; omega)) _) | (with_reducible exact Below.refl _ _) | (with_reducible assumption) | (with_reducible refine Below.trans ?_ (Below.mono (by assumption) (by first | omega | (simp; done) | (simp; omega) | (simp at *; omega))))))))) hE0 htn htl (Lib.hid (hT.out.below (by (repeat (first | (with_reducible refine Below.drew ?_) | (with_reducible refine below_drewN ?_ _) | (with_reducible refine Below.alloc ?_ (by first | omega | (simp; done) | (simp; omega) | (simp at *; omega)) _) | (with_reducible refine Below.setCell ?_ (by first | omega | (simp; done) | (simp; omega) | (simp at *; omega)) _) | (with_reducible exact Below.refl _ _) | (with_reducible assumption) | (with_reducible refine Below.trans ?_ (Below.mono (by assumption) (by first | omega | (simp; done) | (simp; omega) | (simp at *; omega))))))))) hE1 hE) rfl).mono ?_
      rintro e x1 ⟨C, c9, rfl, hs, hb1⟩
      have hc1 : Below w.heap.size w x1 := (((Below.refl _ _).alloc (by first | exact Nat.le_refl _ | (simp; done) | (simp; omega)) _).alloc (by first | exact Nat.le_refl _ | (simp; done) | (simp; omega)) _).trans (hb1.mono (by first | exact Nat.le_refl _ | (simp; done) | (simp; omega)))
      have hB1 : Below w.heap.size w x1 := hc1
      have zu1 := hB1.size
      have PB : Hid (BlkF x1 w.heap.size (w.heap.size) [.string nm, .int .i64 s, .slice A gn gc, .slice B dn dc]) := Lib.hid (((BlkF.made (B := w.heap.size) w [.string nm, .int .i64 s, .slice A gn gc, .slice B dn dc] 40 (by first | exact Nat.le_refl _ | (simp; done) | (simp; omega))).below ((Below.refl _ _).alloc (Nat.le_refl _) _)).below hb1)
      have zPB1 := PB.out.lt
      have RB : Hid (BlkF x1 w.heap.size (w.heap.size + 1) [.slice AT tn tc, .int .i64 r.a, .int .i64 r.b, .int .i64 r.nc, .int .i64 r.dn, .int .i64 r.br, .int .i64 r.em, .int .i64 r.pa, .int .i64 r.sc]) := Lib.hid (by have := (BlkF.made (B := w.heap.size) (w.alloc (.cells #[.string nm, .int .i64 s, .slice A gn gc, .slice B dn dc] 40)) [.slice AT tn tc, .int .i64 r.a, .int .i64 r.b, .int .i64 r.nc, .int .i64 r.dn, .int .i64 r.br, .int .i64 r.em, .int .i64 r.pa, .int .i64 r.sc] 26 (by first | exact Nat.le_refl _ | (simp; done) | (simp; omega))).below hb1; simpa using this)
      have zRB1 := RB.out.lt
      rw [hL.out] at hs
      rw [hL.out]
      obtain ⟨ab, ao, rfl, la, ra⟩ := hs.at' (k := 0) (by simp)
      have a0 := (ra 0 (by simp) 0 (by omega)).trans (show (p2V (x :: l)[0])[0]? = some (.int .i64 x.1) from rfl)
      rw [show ao + 0 * 2 + 0 = ao by omega] at a0
      obtain ⟨n9, hn9⟩ : ∃ z, Hid ((x :: l).length = z) := ⟨_, Lib.hid rfl⟩
      have hn0 : (0 : Int) < (n9 : Int) := by have := hn9.out; simp at this; omega
      have hn1 : ¬ (n9 : Int) = 0 := by omega
      have hn2 : ((n9 : Int) == 0) = false := by simpa using hn1
      have hn3 : 0 < n9 := by omega
      have hn4 : ¬ n9 = 0 := by omega
      rw [hn9.out]
      clear ra
      clear hb1
      obtain ⟨PB_1_0, PB_1_1, PB_1_2, PB_1_3⟩ := b4 PB.out
      have lPB_1 := PB.out.lt
      have nPB_1 : x1.heap.size ≠ w.heap.size := by omega
      have mPB_1 : w.heap.size ≠ x1.heap.size := by omega
      obtain ⟨RB_1_0, RB_1_1, RB_1_2, RB_1_3, RB_1_4, RB_1_5, RB_1_6, RB_1_7, RB_1_8⟩ := b9 RB.out
      have lRB_1 := RB.out.lt
      have nRB_1 : x1.heap.size ≠ w.heap.size + 1 := by omega
      have mRB_1 : w.heap.size + 1 ≠ x1.heap.size := by omega
      go_wp2
      go_ret2
      first | exact Or.inr ⟨rfl, rfl, hB1⟩ | exact ⟨rfl, hB1⟩ | (simp; exact hB1)
end Go.Proofs.Ytijdphlejokijaa
