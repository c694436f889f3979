import Derived.Test.YtijdphlejokijaaESPERfP
import Derived.Test.YtijdphlejokijaaESPELeg
import Derived.Test.YtijdphlejokijaaESPECta
import Derived.Test.YtijdphlejokijaaESPECons
import Derived.Outline
namespace Go.Proofs.Ytijdphlejokijaa
open Go.ChangeShapes Go.WideShapes Go.ChangeAt Go.RowKit
set_option linter.unusedVariables false
set_option linter.unusedSimpArgs false
attribute [local go_sem ↓] Go.wp_at_zero Go.wp_at_succ
set_option maxRecDepth 100000 in
set_option maxHeartbeats 4000000 in
theorem LegBreath_any (nm : ByteArray) (s : Int) (G : List Ga) (D : List Le) (A B : Option Addr) (gn gc dn dc : Nat) (leg b : Int) (N : Nat) (E0 E3 E : Int) (w : World) (hz : nm.size ≤ 9223372036854775807) (hgn : Hid (gn = G.length)) (hgl : gn ≤ 9223372036854775807) (hdn : Hid (dn = D.length)) (hdl : dn ≤ 9223372036854775807) (hG : Hid (SlRows gaV 2 w A G)) (hD : Hid (SlRows leV 3 w B D)) (hE0 : Hid (plnP nm s G D = (N, E0))) (hE3 : Hid (rngE b 1 100000 = E3)) (hE : Hid (firE [E0, lgE leg dn, E3] = E)) :
    Calls Try.prog 31 #[.agg #[.string nm, .int .i64 s, .slice A gn gc, .slice B dn dc], .int .i64 leg, .int .i64 b] w fun e w' => (¬ E = 0 ∧ e = .returned (.tuple #[.int .i64 0, .int .i64 E]) ∧ Below w.heap.size w w') ∨ (E = 0 ∧ e = .returned (.tuple #[.int .i64 (brV (legK s G D leg.toNat) b), .int .i64 0]) ∧ Below w.heap.size w w') := by
  go_enter Try.func31, Try.ntmps31
  go_wp2_with fail
  refine (follow_x nm s G D A B gn gc dn dc N E0 _ hz hgn hgl hdn hdl (Lib.hid (hG.out.below (by (repeat (first | (with_reducible refine Below.drew ?_) | (with_reducible refine below_drewN ?_ _) | (with_reducible refine Below.alloc ?_ (by first | omega | (simp; done) | (simp; omega) | (simp at *; omega)) _) | (with_reducible refine Below.setCell ?_ (by first | omega | (simp; done) | (simp; omega) | (simp at *; omega)) _) | (with_reducible exact Below.refl _ _) | (with_reducible assumption) | (with_reducible refine Below.trans ?_ (Below.mono (by assumption) (by first | omega | (simp; done) | (simp; omega) | (simp at *; omega))))))))) (Lib.hid (hD.out.below (by (repeat (first | (with_reducible refine Below.drew ?_) | (with_reducible refine below_drewN ?_ _) | (with_reducible refine Below.alloc ?_ (by first | omega | (simp; done) | (simp; omega) | (simp at *; omega)) _) | (with_reducible refine Below.setCell ?_ (by first | omega | (simp; done) | (simp; omega) | (simp at *; omega)) _) | (with_reducible exact Below.refl _ _) | (with_reducible assumption) | (with_reducible refine Below.trans ?_ (Below.mono (by assumption) (by first | omega | (simp; done) | (simp; omega) | (simp at *; omega))))))))) hE0).mono ?_
  rintro e x1 ⟨a0, a1, a2, n2, c2, a3, n3, c3, a4, n4, c4, a5, rfl, hn3, hn2, hfg, hb1⟩
  have hc1 : Below w.heap.size w x1 := ((Below.refl _ _).alloc (by first | exact Nat.le_refl _ | (simp; done) | (simp; omega)) _).trans (hb1.mono (by first | exact Nat.le_refl _ | (simp; done) | (simp; omega)))
  have hB1 : Below w.heap.size w x1 := hc1
  have zu1 := hB1.size
  have PB : Hid (BlkF x1 w.heap.size (w.heap.size) [.string nm, .int .i64 s, .slice A gn gc, .slice B dn dc]) := Lib.hid ((BlkF.made (B := w.heap.size) w [.string nm, .int .i64 s, .slice A gn gc, .slice B dn dc] 40 (by first | exact Nat.le_refl _ | (simp; done) | (simp; omega))).below hb1)
  have zPB1 := PB.out.lt
  have HFG := Lib.hid hfg
  clear hfg
  clear hb1
  obtain ⟨PB_1_0, PB_1_1, PB_1_2, PB_1_3⟩ := b4 PB.out
  have lPB_1 := PB.out.lt
  have nPB_1 : x1.heap.size ≠ w.heap.size := by omega
  have mPB_1 : w.heap.size ≠ x1.heap.size := by omega
  obtain ⟨E2, hE2⟩ : ∃ z, Hid (lgE leg n3 = z) := ⟨_, Lib.hid rfl⟩
  have hEE : Hid (firE [E0, E2, E3] = E) := Lib.hid (by rw [← hE.out]; exact fir_x fun h => by rw [← hE2.out, (HFG.out h).1.2.2.2.2.2.2.1])
  go_wp2_with fail
  refine (checkLeg_is a0 a1 a2 n2 c2 a3 n3 c3 a4 n4 c4 a5 leg E2 _ hn3 hE2).mono ?_
  rintro e x2 ⟨rfl, hb2⟩
  have hc2 : Below x1.heap.size x1 x2 := ((Below.refl _ _).alloc (by first | exact Nat.le_refl _ | (simp; done) | (simp; omega)) _).trans (hb2.mono (by first | exact Nat.le_refl _ | (simp; done) | (simp; omega)))
  have hB2 : Below w.heap.size w x2 := hB1.trans (hc2.mono hB1.size)
  have zu2 := hB2.size
  replace HFG := Lib.hid (HFG.out.below hc2)
  replace PB := Lib.hid (PB.out.below hc2)
  have FB : Hid (BlkF x2 w.heap.size (x1.heap.size) [.string a0, .int .i64 a1, .slice a2 n2 c2, .slice a3 n3 c3, .slice a4 n4 c4, .int .i64 a5]) := Lib.hid ((BlkF.made (B := w.heap.size) x1 [.string a0, .int .i64 a1, .slice a2 n2 c2, .slice a3 n3 c3, .slice a4 n4 c4, .int .i64 a5] 110 (by first | exact Nat.le_refl _ | exact hB1.size | (simp; done) | (simp; omega))).below hb2)
  have zFB2 := FB.out.lt
  clear PB_1_0 PB_1_1 PB_1_2 PB_1_3 lPB_1 nPB_1 mPB_1
  clear hb2 hB1 zu1 hc1
  obtain ⟨PB_2_0, PB_2_1, PB_2_2, PB_2_3⟩ := b4 PB.out
  have lPB_2 := PB.out.lt
  have nPB_2 : x2.heap.size ≠ w.heap.size := by omega
  have mPB_2 : w.heap.size ≠ x2.heap.size := by omega
  obtain ⟨FB_2_0, FB_2_1, FB_2_2, FB_2_3, FB_2_4, FB_2_5⟩ := b6 FB.out
  have lFB_2 := FB.out.lt
  have nFB_2 : x2.heap.size ≠ x1.heap.size := by omega
  have mFB_2 : x1.heap.size ≠ x2.heap.size := by omega
  go_wp2_with fail
  refine (cBreathB b E3 _ hE3).mono ?_
  rintro e x3 ⟨rfl, hb3⟩
  have hc3 : Below x2.heap.size x2 x3 := hb3
  have hB3 : Below w.heap.size w x3 := hB2.trans (hc3.mono hB2.size)
  have zu3 := hB3.size
  replace HFG := Lib.hid (HFG.out.below hc3)
  replace PB := Lib.hid (PB.out.below hc3)
  replace FB := Lib.hid (FB.out.below hc3)
  clear PB_2_0 PB_2_1 PB_2_2 PB_2_3 lPB_2 nPB_2 mPB_2 FB_2_0 FB_2_1 FB_2_2 FB_2_3 FB_2_4 FB_2_5 lFB_2 nFB_2 mFB_2
  clear hb3 hB2 zu2 hc2
  obtain ⟨PB_3_0, PB_3_1, PB_3_2, PB_3_3⟩ := b4 PB.out
  have lPB_3 := PB.out.lt
  have nPB_3 : x3.heap.size ≠ w.heap.size := by omega
  have mPB_3 : w.heap.size ≠ x3.heap.size := by omega
  obtain ⟨FB_3_0, FB_3_1, FB_3_2, FB_3_3, FB_3_4, FB_3_5⟩ := b6 FB.out
  have lFB_3 := FB.out.lt
  have nFB_3 : x3.heap.size ≠ x1.heap.size := by omega
  have mFB_3 : x1.heap.size ≠ x3.heap.size := by omega
  go_wp2_with fail
  refine (cFirst3C E0 E2 E3 E x3.heap.size _ hEE (BlkF.made (B := x3.heap.size) x3 [.int .i64 E0, .int .i64 E2, .int .i64 E3] 29 (Nat.le_refl _))).mono ?_
  rintro e x4 ⟨rfl, hb4⟩
  have hc4 : Below x3.heap.size x3 x4 := ((Below.refl _ _).alloc (by first | exact Nat.le_refl _ | (simp; done) | (simp; omega)) _).trans (hb4.mono (by first | exact Nat.le_refl _ | (simp; done) | (simp; omega)))
  have hB4 : Below w.heap.size w x4 := hB3.trans (hc4.mono hB3.size)
  have zu4 := hB4.size
  replace HFG := Lib.hid (HFG.out.below hc4)
  replace PB := Lib.hid (PB.out.below hc4)
  replace FB := Lib.hid (FB.out.below hc4)
  have EB : Hid (BlkF x4 w.heap.size (x3.heap.size) [.int .i64 E0, .int .i64 E2, .int .i64 E3]) := Lib.hid ((BlkF.made (B := w.heap.size) x3 [.int .i64 E0, .int .i64 E2, .int .i64 E3] 29 (by first | exact Nat.le_refl _ | exact hB3.size | (simp; done) | (simp; omega))).below hb4)
  have zEB4 := EB.out.lt
  clear PB_3_0 PB_3_1 PB_3_2 PB_3_3 lPB_3 nPB_3 mPB_3 FB_3_0 FB_3_1 FB_3_2 FB_3_3 FB_3_4 FB_3_5 lFB_3 nFB_3 mFB_3
  clear hb4 hB3 zu3 hc3
  obtain ⟨PB_4_0, PB_4_1, PB_4_2, PB_4_3⟩ := b4 PB.out
  have lPB_4 := PB.out.lt
  have nPB_4 : x4.heap.size ≠ w.heap.size := by omega
  have mPB_4 : w.heap.size ≠ x4.heap.size := by omega
  obtain ⟨FB_4_0, FB_4_1, FB_4_2, FB_4_3, FB_4_4, FB_4_5⟩ := b6 FB.out
  have lFB_4 := FB.out.lt
  have nFB_4 : x4.heap.size ≠ x1.heap.size := by omega
  have mFB_4 : x1.heap.size ≠ x4.heap.size := by omega
  obtain ⟨EB_4_0, EB_4_1, EB_4_2⟩ := b3 EB.out
  have lEB_4 := EB.out.lt
  have nEB_4 : x4.heap.size ≠ x3.heap.size := by omega
  have mEB_4 : x3.heap.size ≠ x4.heap.size := by omega
  clear EB
  by_cases h0 : ¬ E = 0
  · have hE9 : (E != 0) = true := by simpa using h0
    go_wp2
    go_ret2
    exact Or.inl ⟨h0, rfl, hB4⟩
  obtain rfl : E = 0 := by omega
  obtain ⟨rfl, hl0, rfl⟩ : E0 = 0 ∧ lgE leg dn = 0 ∧ E3 = 0 := by
    have := firE_all hE.out
    exact ⟨this _ (by simp), this _ (by simp), this _ (by simp)⟩
  obtain ⟨⟨rfl, rfl, rfl, rfl, rfl, rfl, rfl, rfl, rfl, rfl⟩, hP⟩ := HFG.out rfl
  have hl1 := lgE_z hl0
  obtain ⟨k, rfl⟩ : ∃ k : Nat, leg = k := ⟨leg.toNat, by omega⟩
  have hok := Lib.hid (pln_ok hE0.out)
  have hkd : k < n3 := by omega
  have hbb := rngE_bd hE3.out
  have HP := Lib.hid hP
  have hPok : Hid (PlOk (legK a1 G D k)) := Lib.hid (legK_ok hok.out (by have := hdn.out; omega))
  clear hP hl0
  go_wp2_with fail
  refine (leg_is a0 a1 G D a2 a3 a4 n2 c2 n3 c3 c4 (secT D n3) k _ hgn hdn hok hkd (Lib.hid (hG.out.below hB4)) (Lib.hid (hD.out.below hB4)) HP).mono ?_
  rintro e x5 ⟨rfl, hb5⟩
  have hc5 : Below x4.heap.size x4 x5 := hb5
  have hB5 : Below w.heap.size w x5 := hB4.trans (hc5.mono hB4.size)
  have zu5 := hB5.size
  replace HFG := Lib.hid (HFG.out.below hc5)
  replace PB := Lib.hid (PB.out.below hc5)
  replace FB := Lib.hid (FB.out.below hc5)
  clear PB_4_0 PB_4_1 PB_4_2 PB_4_3 lPB_4 nPB_4 mPB_4 FB_4_0 FB_4_1 FB_4_2 FB_4_3 FB_4_4 FB_4_5 lFB_4 nFB_4 mFB_4
  clear hb5 hB4 zu4 hc4
  obtain ⟨PB_5_0, PB_5_1, PB_5_2, PB_5_3⟩ := b4 PB.out
  have lPB_5 := PB.out.lt
  have nPB_5 : x5.heap.size ≠ w.heap.size := by omega
  have mPB_5 : w.heap.size ≠ x5.heap.size := by omega
  obtain ⟨FB_5_0, FB_5_1, FB_5_2, FB_5_3, FB_5_4, FB_5_5⟩ := b6 FB.out
  have lFB_5 := FB.out.lt
  have nFB_5 : x5.heap.size ≠ x1.heap.size := by omega
  have mFB_5 : x1.heap.size ≠ x5.heap.size := by omega
  go_wp2_with fail
  refine (breathed_is (legK a1 G D k) b (brV (legK a1 G D k) b) _ hPok hbb.1 hbb.2 (Lib.hid rfl)).mono ?_
  rintro e x6 ⟨rfl, hb6⟩
  have hc6 : Below x5.heap.size x5 x6 := hb6
  have hB6 : Below w.heap.size w x6 := hB5.trans (hc6.mono hB5.size)
  have zu6 := hB6.size
  replace HFG := Lib.hid (HFG.out.below hc6)
  replace PB := Lib.hid (PB.out.below hc6)
  replace FB := Lib.hid (FB.out.below hc6)
  clear PB_5_0 PB_5_1 PB_5_2 PB_5_3 lPB_5 nPB_5 mPB_5 FB_5_0 FB_5_1 FB_5_2 FB_5_3 FB_5_4 FB_5_5 lFB_5 nFB_5 mFB_5
  clear hb6 hB5 zu5 hc5
  obtain ⟨PB_6_0, PB_6_1, PB_6_2, PB_6_3⟩ := b4 PB.out
  have lPB_6 := PB.out.lt
  have nPB_6 : x6.heap.size ≠ w.heap.size := by omega
  have mPB_6 : w.heap.size ≠ x6.heap.size := by omega
  obtain ⟨FB_6_0, FB_6_1, FB_6_2, FB_6_3, FB_6_4, FB_6_5⟩ := b6 FB.out
  have lFB_6 := FB.out.lt
  have nFB_6 : x6.heap.size ≠ x1.heap.size := by omega
  have mFB_6 : x1.heap.size ≠ x6.heap.size := by omega
  go_wp2
  go_ret2
  first | exact Or.inr ⟨rfl, rfl, hB6⟩ | exact hB6 | exact ⟨rfl, hB6⟩
end Go.Proofs.Ytijdphlejokijaa
