import Derived.Test.YtijdphlejokijaaEGEEnds
import Derived.Test.YtijdphlejokijaaEGEFx
import Derived.Test.YtijdphlejokijaaEGECons
import Derived.Outline
namespace Go.Proofs.Ytijdphlejokijaa
open Go.ChangeShapes Go.WideShapes Go.ChangeAt Go.RowKit
set_option linter.unusedVariables false
set_option linter.unusedSimpArgs false
attribute [local go_sem ↓] Go.wp_at_zero Go.wp_at_succ
set_option maxRecDepth 100000 in
set_option maxHeartbeats 4000000 in
theorem LegBreath_any (nm : ByteArray) (s : Int) (G : List Ga) (D : List Le) (A B : Option Addr) (gn gc dn dc : Nat) (leg b : Int) (N : Nat) (E0 E3 E : Int) (w : World) (hz : nm.size ≤ 9223372036854775807) (hgn : Hid (gn = G.length)) (hgl : gn ≤ 9223372036854775807) (hdn : Hid (dn = D.length)) (hdl : dn ≤ 9223372036854775807) (hG : Hid (SlRows gaV 2 w A G)) (hD : Hid (SlRows leV 3 w B D)) (hE0 : Hid (plnP nm s G D = (N, E0))) (hE3 : Hid (rngE b 1 100000 = E3)) (hE : Hid (firE [E0, lgE leg dn, E3] = E)) :
    Calls Try.prog 31 #[.agg #[.string nm, .int .i64 s, .slice A gn gc, .slice B dn dc], .int .i64 leg, .int .i64 b] w fun e w' => (¬ E = 0 ∧ e = .returned (.tuple #[.int .i64 0, .int .i64 E]) ∧ Below w.heap.size w w') ∨ (E = 0 ∧ e = .returned (.tuple #[.int .i64 (brV (legK s G D leg.toNat) b), .int .i64 0]) ∧ Below w.heap.size w w') := by
  go_enter Try.func31, Try.ntmps31
  go_wp2_with fail
  refine (follow_x nm s G D A B gn gc dn dc N E0 _ hz hgn hgl hdn hdl (Lib.hid (hG.out.below (by (repeat (first | (with_reducible refine Below.drew ?_) | (with_reducible refine below_drewN ?_ _) | (with_reducible refine Below.alloc ?_ (by first | omega | (simp; done) | (simp; omega) | (simp at *; omega)) _) | (with_reducible refine Below.setCell ?_ (by first | omega | (simp; done) | (simp; omega) | (simp at *; omega)) _) | (with_reducible exact Below.refl _ _) | (with_reducible assumption) | (with_reducible refine Below.trans ?_ (Below.mono (by assumption) (by first | omega | (simp; done) | (simp; omega) | (simp at *; omega))))))))) (Lib.hid (hD.out.below (by (repeat (first | (with_reducible refine Below.drew ?_) | (with_reducible refine below_drewN ?_ _) | (with_reducible refine Below.alloc ?_ (by first | omega | (simp; done) | (simp; omega) | (simp at *; omega)) _) | (with_reducible refine Below.setCell ?_ (by first | omega | (simp; done) | (simp; omega) | (simp at *; omega)) _) | (with_reducible exact Below.refl _ _) | (with_reducible assumption) | (with_reducible refine Below.trans ?_ (Below.mono (by assumption) (by first | omega | (simp; done) | (simp; omega) | (simp at *; omega))))))))) hE0).mono ?_
  rintro e x1 ⟨a0, a1, a2, n2, c2, a3, n3, c3, a4, n4, c4, a5, rfl, hn3, hn2, hfg, hb1⟩
  have hc1 : Below w.heap.size w x1 := ((Below.refl _ _).alloc (by first | exact Nat.le_refl _ | (simp; done) | (simp; omega)) _).trans (hb1.mono (by first | exact Nat.le_refl _ | (simp; done) | (simp; omega)))
  have hB1 : Below w.heap.size w x1 := hc1
  have zu1 := hB1.size
  have PB : Hid (BlkF x1 w.heap.size (w.heap.size) [.string nm, .int .i64 s, .slice A gn gc, .slice B dn dc]) := Lib.hid ((BlkF.made (B := w.heap.size) w [.string nm, .int .i64 s, .slice A gn gc, .slice B dn dc] 40 (by first | exact Nat.le_refl _ | (simp; done) | (simp; omega))).below hb1)
  have zPB1 := PB.out.lt
  have HFG := Lib.hid hfg
  clear hfg
  clear hb1
  obtain ⟨PB_1_0, PB_1_1, PB_1_2, PB_1_3⟩ := b4 PB.out
  have lPB_1 := PB.out.lt
  have nPB_1 : x1.heap.size ≠ w.heap.size := by omega
  have mPB_1 : w.heap.size ≠ x1.heap.size := by omega
  obtain ⟨E2, hE2⟩ : ∃ z, Hid (lgE leg n3 = z) := ⟨_, Lib.hid rfl⟩
  have hEE : Hid (firE [E0, E2, E3] = E) := Lib.hid (by rw [← hE.out]; exact fir_x fun h => by rw [← hE2.out, (HFG.out h).1.2.2.2.2.2.2.1])
  go_wp2_with fail
  refine (checkLeg_is a0 a1 a2 n2 c2 a3 n3 c3 a4 n4 c4 a5 leg E2 _ hn3 hE2).mono ?_
  rintro e x2 ⟨rfl, hb2⟩
  have hc2 : Below x1.heap.size x1 x2 := ((Below.refl _ _).alloc (by first | exact Nat.le_refl _ | (simp; done) | (simp; omega)) _).trans (hb2.mono (by first | exact Nat.le_refl _ | (simp; done) | (simp; omega)))
  have hB2 : Below w.heap.size w x2 := hB1.trans (hc2.mono hB1.size)
  have zu2 := hB2.size
  replace HFG := Lib.hid (HFG.out.below hc2)
  replace PB := Lib.hid (PB.out.below hc2)
  have FB : Hid (BlkF x2 w.heap.size (x1.heap.size) [.string a0, .int .i64 a1, .slice a2 n2 c2, .slice a3 n3 c3, .slice a4 n4 c4, .int .i64 a5]) := Lib.hid ((BlkF.made (B := w.heap.size) x1 [.string a0, .int .i64 a1, .slice a2 n2 c2, .slice a3 n3 c3, .slice a4 n4 c4, .int .i64 a5] 110 (by first | exact Nat.le_refl _ | exact hB1.size | (simp; done) | (simp; omega))).below hb2)
  have zFB2 := FB.out.lt
  clear PB_1_0 PB_1_1 PB_1_2 PB_1_3 lPB_1 nPB_1 mPB_1
  clear hb2 hB1 zu1 hc1
  obtain ⟨PB_2_0, PB_2_1, PB_2_2, PB_2_3⟩ := b4 PB.out
  have lPB_2 := PB.out.lt
  have nPB_2 : x2.heap.size ≠ w.heap.size := by omega
  have mPB_2 : w.heap.size ≠ x2.heap.size := by omega
  obtain ⟨FB_2_0, FB_2_1, FB_2_2, FB_2_3, FB_2_4, FB_2_5⟩ := b6 FB.out
  have lFB_2 := FB.out.lt
  have nFB_2 : x2.heap.size ≠ x1.heap.size := by omega
  have mFB_2 : x1.heap.size ≠ x2.heap.size := by omega
  go_wp2_with fail
  refine (cBreathB b E3 _ hE3).mono ?_
  rintro e x3 ⟨rfl, hb3⟩
  have hc3 : Below x2.heap.size x2 x3 := hb3
  have hB3 : Below w.heap.size w x3 := hB2.trans (hc3.mono hB2.size)
  have zu3 := hB3.size
  replace HFG := Lib.hid (HFG.out.below hc3)
  replace PB := Lib.hid (PB.out.below hc3)
  replace FB := Lib.hid (FB.out.below hc3)
  clear PB_2_0 PB_2_1 PB_2_2 PB_2_3 lPB_2 nPB_2 mPB_2 FB_2_0 FB_2_1 FB_2_2 FB_2_3 FB_2_4 FB_2_5 lFB_2 nFB_2 mFB_2
  clear hb3 hB2 zu2 hc2
  obtain ⟨PB_3_0, PB_3_1, PB_3_2, PB_3_3⟩ := b4 PB.out
  have lPB_3 := PB.out.lt
  have nPB_3 : x3.heap.size ≠ w.heap.size := by omega
  have mPB_3 : w.heap.size ≠ x3.heap.size := by omega
  obtain ⟨FB_3_0, FB_3_1, FB_3_2, FB_3_3, FB_3_4, FB_3_5⟩ := b6 FB.out
  have lFB_3 := FB.out.lt
  have nFB_3 : x3.heap.size ≠ x1.heap.size := by omega
  have mFB_3 : x1.heap.size ≠ x3.heap.size := by omega
  go_wp2_with fail
  refine (cFirst3C E0 E2 E3 E x3.heap.size _ hEE (BlkF.made (B := x3.heap.size) x3 [.int .i64 E0, .int .i64 E2, .int .i64 E3] 29 (Nat.le_refl _))).mono ?_
  rintro e x4 ⟨rfl, hb4⟩
  have hc4 : Below x3.heap.size x3 x4 := ((Below.refl _ _).alloc (by first | exact Nat.le_refl _ | (simp; done) | (simp; omega)) _).trans (hb4.mono (by first | exact Nat.le_refl _ | (simp; done) | (simp; omega)))
  have hB4 : Below w.heap.size w x4 := hB3.trans (hc4.mono hB3.size)
  have zu4 := hB4.size
  replace HFG := Lib.hid (HFG.out.below hc4)
  replace PB := Lib.hid (PB.out.below hc4)
  replace FB := Lib.hid (FB.out.below hc4)
  have EB : Hid (BlkF x4 w.heap.size (x3.heap.size) [.int .i64 E0, .int .i64 E2, .int .i64 E3]) := Lib.hid ((BlkF.made (B := w.heap.size) x3 [.int .i64 E0, .int .i64 E2, .int .i64 E3] 29 (by first | exact Nat.le_refl _ | exact hB3.size | (simp; done) | (simp; omega))).below hb4)
  have zEB4 := EB.out.lt
  clear PB_3_0 PB_3_1 PB_3_2 PB_3_3 lPB_3 nPB_3 mPB_3 FB_3_0 FB_3_1 FB_3_2 FB_3_3 FB_3_4 FB_3_5 lFB_3 nFB_3 mFB_3
  clear hb4 hB3 zu3 hc3
  obtain ⟨PB_4_0, PB_4_1, PB_4_2, PB_4_3⟩ := b4 PB.out
  have lPB_4 := PB.out.lt
  have nPB_4 : x4.heap.size ≠ w.heap.size := by omega
  have mPB_4 : w.heap.size ≠ x4.heap.size := by omega
  obtain ⟨FB_4_0, FB_4_1, FB_4_2, FB_4_3, FB_4_4, FB_4_5⟩ := b6 FB.out
  have lFB_4 := FB.out.lt
  have nFB_4 : x4.heap.size ≠ x1.heap.size := by omega
  have mFB_4 : x1.heap.size ≠ x4.heap.size := by omega
  obtain ⟨EB_4_0, EB_4_1, EB_4_2⟩ := b3 EB.out
  have lEB_4 := EB.out.lt
  have nEB_4 : x4.heap.size ≠ x3.heap.size := by omega
  have mEB_4 : x3.heap.size ≠ x4.heap.size := by omega
  clear EB
  by_cases h0 : ¬ E = 0
  · have hE9 : (E != 0) = true := by simpa using h0
    go_wp2
    go_ret2
    exact Or.inl ⟨h0, rfl, hB4⟩
  obtain rfl : E = 0 := by omega
  obtain ⟨rfl, hl0, rfl⟩ : E0 = 0 ∧ lgE leg dn = 0 ∧ E3 = 0 := by
    have := firE_all hE.out
    exact ⟨this _ (by simp), this _ (by simp), this _ (by simp)⟩
  obtain ⟨⟨rfl, rfl, rfl, rfl, rfl, rfl, rfl, rfl, rfl, rfl⟩, hP⟩ := HFG.out rfl
  have hl1 := lgE_z hl0
  obtain ⟨k, rfl⟩ : ∃ k : Nat, leg = k := ⟨leg.toNat, by omega⟩
  have hok := Lib.hid (pln_ok hE0.out)
  have hkd : k < n3 := by omega
  have hbb := rngE_bd hE3.out
  have HP := Lib.hid hP
  have hPok : Hid (PlOk (legK a1 G D k)) := Lib.hid (legK_ok hok.out (by have := hdn.out; omega))
  clear hP hl0
  go_wp2_with fail
  refine (leg_is a0 a1 G D a2 a3 a4 n2 c2 n3 c3 c4 (secT D n3) k _ hgn hdn hok hkd (Lib.hid (hG.out.below hB4)) (Lib.hid (hD.out.below hB4)) HP).mono ?_
  rintro e x5 ⟨rfl, hb5⟩
  have hc5 : Below x4.heap.size x4 x5 := hb5
  have hB5 : Below w.heap.size w x5 := hB4.trans (hc5.mono hB4.size)
  have zu5 := hB5.size
  replace HFG := Lib.hid (HFG.out.below hc5)
  replace PB := Lib.hid (PB.out.below hc5)
  replace FB := Lib.hid (FB.out.below hc5)
  clear PB_4_0 PB_4_1 PB_4_2 PB_4_3 lPB_4 nPB_4 mPB_4 FB_4_0 FB_4_1 FB_4_2 FB_4_3 FB_4_4 FB_4_5 lFB_4 nFB_4 mFB_4
  clear hb5 hB4 zu4 hc4
  obtain ⟨PB_5_0, PB_5_1, PB_5_2, PB_5_3⟩ := b4 PB.out
  have lPB_5 := PB.out.lt
  have nPB_5 : x5.heap.size ≠ w.heap.size := by omega
  have mPB_5 : w.heap.size ≠ x5.heap.size := by omega
  obtain ⟨FB_5_0, FB_5_1, FB_5_2, FB_5_3, FB_5_4, FB_5_5⟩ := b6 FB.out
  have lFB_5 := FB.out.lt
  have nFB_5 : x5.heap.size ≠ x1.heap.size := by omega
  have mFB_5 : x1.heap.size ≠ x5.heap.size := by omega
  go_wp2_with fail
  refine (breathed_is (legK a1 G D k) b (brV (legK a1 G D k) b) _ hPok hbb.1 hbb.2 (Lib.hid rfl)).mono ?_
  rintro e x6 ⟨rfl, hb6⟩
  have hc6 : Below x5.heap.size x5 x6 := hb6
  have hB6 : Below w.heap.size w x6 := hB5.trans (hc6.mono hB5.size)
  have zu6 := hB6.size
  replace HFG := Lib.hid (HFG.out.below hc6)
  replace PB := Lib.hid (PB.out.below hc6)
  replace FB := Lib.hid (FB.out.below hc6)
  clear PB_5_0 PB_5_1 PB_5_2 PB_5_3 lPB_5 nPB_5 mPB_5 FB_5_0 FB_5_1 FB_5_2 FB_5_3 FB_5_4 FB_5_5 lFB_5 nFB_5 mFB_5
  clear hb6 hB5 zu5 hc5
  obtain ⟨PB_6_0, PB_6_1, PB_6_2, PB_6_3⟩ := b4 PB.out
  have lPB_6 := PB.out.lt
  have nPB_6 : x6.heap.size ≠ w.heap.size := by omega
  have mPB_6 : w.heap.size ≠ x6.heap.size := by omega
  obtain ⟨FB_6_0, FB_6_1, FB_6_2, FB_6_3, FB_6_4, FB_6_5⟩ := b6 FB.out
  have lFB_6 := FB.out.lt
  have nFB_6 : x6.heap.size ≠ x1.heap.size := by omega
  have mFB_6 : x1.heap.size ≠ x6.heap.size := by omega
  go_wp2
  go_ret2
  first | exact Or.inr ⟨rfl, rfl, hB6⟩ | exact hB6 | exact ⟨rfl, hB6⟩
set_option maxRecDepth 100000 in
set_option maxHeartbeats 4000000 in
theorem refLegBreath_is (nm : ByteArray) (s : Int) (G : List Ga) (D : List Le) (A B : Option Addr) (gn gc dn dc : Nat) (k : Nat) (b q : Int) (w : World) (hgn : Hid (gn = G.length)) (hdn : Hid (dn = D.length)) (hok : Hid (PlnOk nm s G D)) (hG : Hid (SlRows gaV 2 w A G)) (hD : Hid (SlRows leV 3 w B D)) (hk : k < dn) (b0 : 1 ≤ b) (b1 : b ≤ 100000) (hq : Hid (brV (legK s G D k) b = q)) :
    Calls Try.prog 44 #[.agg #[.string nm, .int .i64 s, .slice A gn gc, .slice B dn dc], .int .i64 (k : Int), .int .i64 b] w fun e w' => e = .returned (.int .i64 q) ∧ Below w.heap.size w w' := by
  have hkD : k < D.length := by have := hdn.out; omega
  obtain ⟨lb, lo, rfl, hll, hDR⟩ := hD.out.at' hkD
  obtain ⟨f0, f1, f2⟩ := le_at hDR hkD
  obtain ⟨s9, hs9⟩ : ∃ z, Hid (D[k].s = z) := ⟨_, Lib.hid rfl⟩
  rw [hs9.out] at f0
  have hPok := legK_ok hok.out hkD
  obtain ⟨y, hy⟩ : ∃ z, Hid (legK s G D k = z) := ⟨_, Lib.hid rfl⟩
  have hys : y.s = s9 := by rw [← hy.out]; show (D.getD k default).s = s9; rw [getD_leE hkD]; exact hs9.out
  have HEN := Lib.hid (fun X hG hD => refEnds_is nm s G D A (some ⟨lb, lo, none⟩) gn gc dn dc k X hgn hdn hok hk hG hD)
  rw [hy.out] at hPok HEN
  have k0 : ¬ (k : Int) < 0 := by omega
  have kn : (k : Int) < (dn : Int) := by omega
  rw [hy.out] at hq
  have bb := br_bd hPok b0 b1
  rw [hys] at bb
  obtain ⟨x1', hx1⟩ : ∃ z, Hid (y.su + y.bd = z) := ⟨_, Lib.hid rfl⟩
  obtain ⟨x2', hx2⟩ : ∃ z, Hid (y.su + y.d = z) := ⟨_, Lib.hid rfl⟩
  have hsu := hPok.su
  have hbd := hPok.bd
  have hdd := hPok.d
  have hq2 : Hid (upE (b * (x1' + x2') * s9) 120000 = q) := Lib.hid (by rw [← hq.out, ← hx1.out, ← hx2.out, ← hys]; rfl)
  have HEN2 := HEN.out
  rw [hx1.out, hx2.out] at bb HEN2
  have wa : IntKind.i64.wrap (x1' + x2') = x1' + x2' := IntWalk.i64_in _ (by have := hx1.out; have := hx2.out; omega)
  have wb : IntKind.i64.wrap (b * (x1' + x2')) = b * (x1' + x2') := IntWalk.i64_in _ (by omega)
  have wc : IntKind.i64.wrap (b * (x1' + x2') * s9) = b * (x1' + x2') * s9 := IntWalk.i64_in _ (by omega)
  have HEN := Lib.hid HEN2
  clear HEN2 hDR f1 f2 hsu hbd hdd
  go_enter Try.func44, Try.ntmps44
  go_wp2_with fail
  refine (HEN.out _ (Lib.hid (hG.out.below (by (repeat (first | (with_reducible refine Below.drew ?_) | (with_reducible refine below_drewN ?_ _) | (with_reducible refine Below.alloc ?_ (by first | omega | (simp; done) | (simp; omega) | (simp at *; omega)) _) | (with_reducible refine Below.setCell ?_ (by first | omega | (simp; done) | (simp; omega) | (simp at *; omega)) _) | (with_reducible exact Below.refl _ _) | (with_reducible assumption) | (with_reducible refine Below.trans ?_ (Below.mono (by assumption) (by first | omega | (simp; done) | (simp; omega) | (simp at *; omega))))))))) (Lib.hid (hD.out.below (by (repeat (first | (with_reducible refine Below.drew ?_) | (with_reducible refine below_drewN ?_ _) | (with_reducible refine Below.alloc ?_ (by first | omega | (simp; done) | (simp; omega) | (simp at *; omega)) _) | (with_reducible refine Below.setCell ?_ (by first | omega | (simp; done) | (simp; omega) | (simp at *; omega)) _) | (with_reducible exact Below.refl _ _) | (with_reducible assumption) | (with_reducible refine Below.trans ?_ (Below.mono (by assumption) (by first | omega | (simp; done) | (simp; omega) | (simp at *; omega)))))))))).mono ?_
  rintro e x1 ⟨rfl, hb1⟩
  have hc1 : Below w.heap.size w x1 := ((Below.refl _ _).alloc (by first | exact Nat.le_refl _ | (simp; done) | (simp; omega)) _).trans (hb1.mono (by first | exact Nat.le_refl _ | (simp; done) | (simp; omega)))
  have hB1 : Below w.heap.size w x1 := hc1
  have zu1 := hB1.size
  have PB : Hid (BlkF x1 w.heap.size (w.heap.size) [.string nm, .int .i64 s, .slice A gn gc, .slice (some ⟨lb, lo, none⟩) dn dc]) := Lib.hid ((BlkF.made (B := w.heap.size) w [.string nm, .int .i64 s, .slice A gn gc, .slice (some ⟨lb, lo, none⟩) dn dc] 40 (by first | exact Nat.le_refl _ | (simp; done) | (simp; omega))).below hb1)
  have zPB1 := PB.out.lt
  clear hb1
  obtain ⟨PB_1_0, PB_1_1, PB_1_2, PB_1_3⟩ := b4 PB.out
  have lPB_1 := PB.out.lt
  have nPB_1 : x1.heap.size ≠ w.heap.size := by omega
  have mPB_1 : w.heap.size ≠ x1.heap.size := by omega
  have f0a := (hB1.cell (p := ⟨lb, lo + k * 3, none⟩) hll).trans f0
  have lla : lb < x1.heap.size := Nat.lt_of_lt_of_le hll hB1.size
  have llb : x1.heap.size ≠ lb := by omega
  have llc : lb ≠ x1.heap.size := by omega
  go_wp2_with fail
  refine (baseCeil_e _ 120000 q _ bb.2.2.1 (by omega) (by omega) (by omega) hq2).mono ?_
  rintro e x3 ⟨rfl, rfl⟩
  go_wp2
  go_ret
  exact ⟨rfl, (by (repeat (first | (with_reducible refine Below.drew ?_) | (with_reducible refine below_drewN ?_ _) | (with_reducible refine Below.alloc ?_ (by first | omega | (simp; done) | (simp; omega) | (simp at *; omega)) _) | (with_reducible refine Below.setCell ?_ (by first | omega | (simp; done) | (simp; omega) | (simp at *; omega)) _) | (with_reducible exact Below.refl _ _) | (with_reducible assumption) | (with_reducible refine Below.trans ?_ (Below.mono (by assumption) (by first | omega | (simp; done) | (simp; omega) | (simp at *; omega)))))))⟩
theorem conA_range {b s : Int} {G : List Ga} {D : List Le} {n k : Nat} (hk : k ≤ D.length) : conA b (legK s G D) n (List.range k) = conA b (legC s G D) n (List.range k) := (conA_congr fun j hj => by rw [legC_is (by have := List.mem_range.1 hj; omega)]).symm
set_option maxRecDepth 100000 in
set_option maxHeartbeats 4000000 in
theorem refConsumed_is (nm : ByteArray) (s : Int) (G : List Ga) (D : List Le) (A B : Option Addr) (gn gc dn dc : Nat) (b : Int) (w : World) (hgn : Hid (gn = G.length)) (hdn : Hid (dn = D.length)) (hok : Hid (PlnOk nm s G D)) (hG : Hid (SlRows gaV 2 w A G)) (hD : Hid (SlRows leV 3 w B D)) (b0 : 1 ≤ b) (b1 : b ≤ 100000) :
    Calls Try.prog 46 #[.agg #[.string nm, .int .i64 s, .slice A gn gc, .slice B dn dc], .int .i64 b] w fun e w' => ∃ C, e = .returned (.slice (some ⟨C, 0, none⟩) gn gn) ∧ SlRows inV 1 w' (some ⟨C, 0, none⟩) (conA b (legK s G D) gn (List.range dn)) ∧ Below w.heap.size w w' := by
  have g1 : 1 ≤ gn := by have := hok.out.g0; have := hgn.out; omega
  have g8 : gn ≤ 8 := by have := hok.out.g8; have := hgn.out; omega
  have d60 : dn ≤ 60 := by have := hok.out.d6; have := hdn.out; omega
  have hmk := fun (w : World) => mkIn8 g1 g8 w
  obtain ⟨ob, hob⟩ : ∃ z, w.heap.size + 1 = z := ⟨_, rfl⟩
  have hO0 : Hid (BlkF ((w.alloc (.cells #[.string nm, .int .i64 s, .slice A gn gc, .slice B dn dc] 40)).alloc (.cells (Array.replicate gn (.int .i64 0)) 3)) w.heap.size ob ((conA b (legK s G D) gn (List.range 0)).map fun x => .int .i64 x)) := Lib.hid (by
    have h := BlkF.made (B := w.heap.size) (w.alloc (.cells #[.string nm, .int .i64 s, .slice A gn gc, .slice B dn dc] 40)) (List.replicate gn (.int .i64 0)) 3 (by simp)
    rw [show (List.replicate gn (Value.int .i64 0)).toArray = Array.replicate gn (.int .i64 0) by simp] at h
    rw [show (w.alloc (.cells #[.string nm, .int .i64 s, .slice A gn gc, .slice B dn dc] 40)).heap.size = ob by rw [← hob]; simp] at h
    have e : (conA b (legK s G D) gn (List.range 0)).map (fun x => Value.int .i64 x) = List.replicate gn (.int .i64 0) := by simp [conA]
    rw [e]; exact h)
  have hP0 : Hid (BlkF ((w.alloc (.cells #[.string nm, .int .i64 s, .slice A gn gc, .slice B dn dc] 40)).alloc (.cells (Array.replicate gn (.int .i64 0)) 3)) w.heap.size w.heap.size [.string nm, .int .i64 s, .slice A gn gc, .slice B dn dc]) := Lib.hid ((BlkF.made (B := w.heap.size) w [.string nm, .int .i64 s, .slice A gn gc, .slice B dn dc] 40 (Nat.le_refl _)).below ((Below.refl _ _).alloc (Nat.le_refl _) _))
  have hB0 := Lib.hid (show Below w.heap.size w ((w.alloc (.cells #[.string nm, .int .i64 s, .slice A gn gc, .slice B dn dc] 40)).alloc (.cells (Array.replicate gn (.int .i64 0)) 3)) from ((Below.refl _ _).alloc (Nat.le_refl _) _).alloc (by simp) _)
  go_enter Try.func46, Try.ntmps46
  go_wp2_with fail
  go_loopw [6] (fun i wr => ∃ k : Nat, k ≤ dn ∧ i = .int .i64 k ∧ Hid (BlkF wr w.heap.size w.heap.size [.string nm, .int .i64 s, .slice A gn gc, .slice B dn dc]) ∧ Hid (BlkF wr w.heap.size ob ((conA b (legK s G D) gn (List.range k)).map fun x => .int .i64 x)) ∧ Below w.heap.size w wr) (fun i _ => dn - (intOf i).toNat)
  case atStart => exact ⟨0, by omega, rfl, hP0, hO0, hB0.out⟩
  case round =>
    clear hP0 hO0 hB0 hmk
    obtain ⟨k, hk, rfl, hP, hO, hB⟩ := hrel
    have zb := hB.size
    by_cases hkn : k < dn
    · have kn : (k : Int) < (dn : Int) := by omega
      have k0 : ¬ (k : Int) < 0 := by omega
      have hkD : k < D.length := by have := hdn.out; omega
      obtain ⟨gk, hgk0, hgkl⟩ := legC_g hok.out k
      rw [legC_is hkD] at hgk0
      have hgkD : D[k].g = gk := by rw [← hgk0]; show D[k].g = (D.getD k default).g; rw [getD_leE hkD]
      obtain ⟨lb, lo, rfl, hll0, hDR⟩ := hD.out.at' hkD
      have f2 := (le_at hDR hkD).2.2
      rw [hgkD] at f2
      obtain ⟨q9, hq9⟩ : ∃ z, Hid (brV (legK s G D k) b = z) := ⟨_, Lib.hid rfl⟩
      have hlen := (conA_snocL b (legC s G D) gn k (List.range k) (by simp)).1
      have hLb := (conA_snocL b (legC s G D) gn k (List.range k) (by simp)).2 (legC_ok hok.out) b0 b1 gk
      rw [← conA_range (by omega)] at hLb hlen
      have hbq := brV_bd (legK_ok hok.out hkD) b0 b1
      rw [hq9.out] at hbq
      have hCN0 : conA b (legK s G D) gn (List.range (k + 1)) = (conA b (legK s G D) gn (List.range k)).set gk ((conA b (legK s G D) gn (List.range k)).getD gk 0 + q9) := by
        rw [List.range_succ, conA_snoc]
        unfold conStep
        rw [hq9.out, hgk0, Int.toNat_natCast]
      obtain ⟨c9, hc9⟩ : ∃ z, Hid ((conA b (legK s G D) gn (List.range k)).getD gk 0 = z) := ⟨_, Lib.hid rfl⟩
      rw [hc9.out] at hLb hCN0
      obtain ⟨s9, hs9⟩ : ∃ z, Hid (c9 + q9 = z) := ⟨_, Lib.hid rfl⟩
      rw [hs9.out] at hCN0
      have hCN := Lib.hid hCN0
      have hwS : IntKind.i64.wrap (c9 + q9) = s9 := by rw [IntWalk.i64_in _ (by omega)]; exact hs9.out
      have hgn2 : gk < gn := by have := hgn.out; omega
      have gg0 : ¬ (gk : Int) < 0 := by omega
      have gg1 : (gk : Int) < (gn : Int) := by omega
      have lP := hP.out.lt
      have lO := hO.out.lt
      obtain ⟨c0, c1, c2, c3⟩ := b4 hP.out
      have hc : wr.cell? ⟨ob, gk, none⟩ = some (.int .i64 c9) := by
        have hg : (conA b (legK s G D) gn (List.range k))[gk]? = some c9 := by rw [← hc9.out, List.getD_eq_getElem?_getD, List.getElem?_eq_getElem (by omega)]; rfl
        exact hO.out.at' gk _ (by rw [List.getElem?_map, hg]; rfl)
      have f2' := (hB.cell (p := ⟨lb, lo + k * 3 + 2, none⟩) hll0).trans f2
      have hll : lb < wr.heap.size := by omega
      have HS : Hid (∀ y, Below wr.heap.size wr y → y.cell? ⟨w.heap.size, 0, none⟩ = some (.string nm) ∧ y.cell? ⟨w.heap.size, 1, none⟩ = some (.int .i64 s) ∧ y.cell? ⟨w.heap.size, 2, none⟩ = some (.slice A gn gc) ∧ y.cell? ⟨w.heap.size, 3, none⟩ = some (.slice (some ⟨lb, lo, none⟩) dn dc) ∧ y.cell? ⟨lb, lo + k * 3 + 2, none⟩ = some (.int .i64 (gk : Int)) ∧ y.cell? ⟨ob, gk, none⟩ = some (.int .i64 c9)) := Lib.hid fun y hy => ⟨(hy.cell (p := ⟨w.heap.size, 0, none⟩) lP).trans c0, (hy.cell (p := ⟨w.heap.size, 1, none⟩) lP).trans c1, (hy.cell (p := ⟨w.heap.size, 2, none⟩) lP).trans c2, (hy.cell (p := ⟨w.heap.size, 3, none⟩) lP).trans c3, (hy.cell (p := ⟨lb, lo + k * 3 + 2, none⟩) hll).trans f2', (hy.cell (p := ⟨ob, gk, none⟩) lO).trans hc⟩
      go_upto_region 5 with (fail)
      clear c0 c1 c2 c3 f2 f2' hc hCN0 hgkD hgk0 hDR hLb hbq
      refine wp_region_Z (S := (fun w' => w'.cell? ⟨w.heap.size, 0, none⟩ = some (.string nm) ∧ w'.cell? ⟨w.heap.size, 1, none⟩ = some (.int .i64 s) ∧ w'.cell? ⟨w.heap.size, 2, none⟩ = some (.slice A gn gc) ∧ w'.cell? ⟨w.heap.size, 3, none⟩ = some (.slice (some ⟨lb, lo, none⟩) dn dc) ∧ w'.cell? ⟨lb, lo + k * 3 + 2, none⟩ = some (.int .i64 (gk : Int)) ∧ w'.cell? ⟨ob, gk, none⟩ = some (.int .i64 c9))) 22 (by kernel_rfl) (by kernel_rfl) (by kernel_rfl) (HS.out _ (Below.refl _ _).drew) (fun hHeld => ?_)
      have hT0 : Below wr.heap.size wr wr.drew := (Below.refl _ _).drew
      generalize hdr : wr.drew = v0 at *
      clear hdr
      refine wpAnyZ_take (i := 0) (oi := ⟨some 18, _, _, _, _, _⟩) (v := ?_) (by kernel_rfl) (by kernel_rfl) rfl rfl (by kernel_rfl) (by kernel_rfl) (by kernel_rfl) (fun _ _ _ h => h) (Or.inl ⟨by kernel_rfl, ?_⟩) (by assumption) ?_
      rotate_left
      · (intro w hSw; (try dsimp only at hSw); go_simp; all_goals with_reducible rfl)
      try simp only [Act.put, sA, sB, sC]
      refine wpAnyZ_take (i := 1) (oi := ⟨some 19, _, _, _, _, _⟩) (v := ?_) (by kernel_rfl) (by kernel_rfl) rfl rfl (by kernel_rfl) (by kernel_rfl) (by kernel_rfl) (fun _ _ _ h => h) (Or.inl ⟨by kernel_rfl, ?_⟩) (by assumption) ?_
      rotate_left
      · (intro w hSw; (try dsimp only at hSw); go_simp; all_goals with_reducible rfl)
      try simp only [Act.put, sA, sB, sC]
      refine wpAnyZ_take (i := 2) (oi := ⟨some 20, _, _, _, _, _⟩) (v := ?_) (by kernel_rfl) (by kernel_rfl) rfl rfl (by kernel_rfl) (by kernel_rfl) (by kernel_rfl) (fun _ _ _ h => h) (Or.inl ⟨by kernel_rfl, ?_⟩) (by assumption) ?_
      rotate_left
      · (intro w hSw; (try dsimp only at hSw); go_simp; all_goals with_reducible rfl)
      try simp only [Act.put, sA, sB, sC]
      refine wpAnyZ_take (i := 3) (oi := ⟨some 21, _, _, _, _, _⟩) (v := ?_) (by kernel_rfl) (by kernel_rfl) rfl rfl (by kernel_rfl) (by kernel_rfl) (by kernel_rfl) (fun _ _ _ h => h) (Or.inl ⟨by kernel_rfl, ?_⟩) (by assumption) ?_
      rotate_left
      · (intro w hSw; (try dsimp only at hSw); go_simp; all_goals with_reducible rfl)
      try simp only [Act.put, sA, sB, sC]
      refine wpAnyZ_take (i := 4) (oi := ⟨some 22, _, _, _, _, _⟩) (v := ?_) (by kernel_rfl) (by kernel_rfl) rfl rfl (by kernel_rfl) (by kernel_rfl) (by kernel_rfl) (fun _ _ _ h => h) (Or.inl ⟨by kernel_rfl, ?_⟩) (by assumption) ?_
      rotate_left
      · (intro w hSw; (try dsimp only at hSw); go_simp; all_goals with_reducible rfl)
      try simp only [Act.put, sA, sB, sC]
      refine wpAnyZ_take (i := 5) (oi := ⟨some 23, _, _, _, _, _⟩) (v := ?_) (by kernel_rfl) (by kernel_rfl) rfl rfl (by kernel_rfl) (by kernel_rfl) (by kernel_rfl) (fun _ _ _ h => h) (Or.inl ⟨by kernel_rfl, ?_⟩) (by assumption) ?_
      rotate_left
      · (intro w hSw; (try dsimp only at hSw); go_simp; all_goals with_reducible rfl)
      try simp only [Act.put, sA, sB, sC]
      refine wpAnyZ_take (i := 6) (oi := ⟨some 24, _, _, _, _, _⟩) (v := ?_) (by kernel_rfl) (by kernel_rfl) rfl rfl (by kernel_rfl) (by kernel_rfl) (by kernel_rfl) (fun _ _ _ h => h) (Or.inl ⟨by kernel_rfl, ?_⟩) (by assumption) ?_
      rotate_left
      · (intro w hSw; (try dsimp only at hSw); go_simp; all_goals with_reducible rfl)
      try simp only [Act.put, sA, sB, sC]
      refine wpAnyZ_take (i := 7) (oi := ⟨some 25, _, _, _, _, _⟩) (v := ?_) (by kernel_rfl) (by kernel_rfl) rfl rfl (by kernel_rfl) (by kernel_rfl) (by kernel_rfl) (fun _ _ _ h => h) (Or.inl ⟨by kernel_rfl, ?_⟩) (by assumption) ?_
      rotate_left
      · (intro w hSw; (try dsimp only at hSw); go_simp; all_goals with_reducible rfl)
      try simp only [Act.put, sA, sB, sC]
      refine wpAnyZ_take (i := 8) (oi := ⟨some 26, _, _, _, _, _⟩) (v := ?_) (by kernel_rfl) (by kernel_rfl) rfl rfl (by kernel_rfl) (by kernel_rfl) (by kernel_rfl) (fun _ _ _ h => h) (Or.inl ⟨by kernel_rfl, ?_⟩) (by assumption) ?_
      rotate_left
      · (intro w hSw; (try dsimp only at hSw); go_simp; all_goals with_reducible rfl)
      try simp only [Act.put, sA, sB, sC]
      refine wpAnyZ_take (i := 9) (oi := ⟨some 27, _, _, _, _, _⟩) (v := ?_) (by kernel_rfl) (by kernel_rfl) rfl rfl (by kernel_rfl) (by kernel_rfl) (by kernel_rfl) (fun _ _ _ h => h) (Or.inl ⟨by kernel_rfl, ?_⟩) (by assumption) ?_
      rotate_left
      · (intro w hSw; (try dsimp only at hSw); go_simp; all_goals with_reducible rfl)
      try simp only [Act.put, sA, sB, sC]
      refine wpAnyZ_take (i := 10) (oi := ⟨some 28, _, _, _, _, _⟩) (v := ?_) (by kernel_rfl) (by kernel_rfl) rfl rfl (by kernel_rfl) (by kernel_rfl) (by kernel_rfl) (fun _ _ _ h => h) (Or.inl ⟨by kernel_rfl, ?_⟩) (by assumption) ?_
      rotate_left
      · (intro w hSw; (try dsimp only at hSw); go_simp; all_goals with_reducible rfl)
      try simp only [Act.put, sA, sB, sC]
      refine wpAnyZ_take (i := 11) (oi := ⟨some 29, _, _, _, _, _⟩) (v := ?_) (by kernel_rfl) (by kernel_rfl) rfl rfl (by kernel_rfl) (by kernel_rfl) (by kernel_rfl) (fun _ _ _ h => h) (Or.inl ⟨by kernel_rfl, ?_⟩) (by assumption) ?_
      rotate_left
      · (intro w hSw; (try dsimp only at hSw); go_simp; all_goals with_reducible rfl)
      try simp only [Act.put, sA, sB, sC]
      refine wpAnyZ_take (i := 12) (oi := ⟨some 30, _, _, _, _, _⟩) (v := ?_) (by kernel_rfl) (by kernel_rfl) rfl rfl (by kernel_rfl) (by kernel_rfl) (by kernel_rfl) (fun _ _ _ h => h) (Or.inl ⟨by kernel_rfl, ?_⟩) (by assumption) ?_
      rotate_left
      · (intro w hSw; (try dsimp only at hSw); go_simp; all_goals with_reducible rfl)
      try simp only [Act.put, sA, sB, sC]
      refine wpAnyZ_take (i := 13) (oi := ⟨some 31, _, _, _, _, _⟩) (v := ?_) (by kernel_rfl) (by kernel_rfl) rfl rfl (by kernel_rfl) (by kernel_rfl) (by kernel_rfl) (fun _ _ _ h => h) (Or.inl ⟨by kernel_rfl, ?_⟩) (by assumption) ?_
      rotate_left
      · (intro w hSw; (try dsimp only at hSw); go_simp; all_goals with_reducible rfl)
      try simp only [Act.put, sA, sB, sC]
      refine wpAnyZ_take (i := 14) (oi := ⟨some 32, _, _, _, _, _⟩) (v := ?_) (by kernel_rfl) (by kernel_rfl) rfl rfl (by kernel_rfl) (by kernel_rfl) (by kernel_rfl) (fun _ _ _ h => h) (Or.inl ⟨by kernel_rfl, ?_⟩) (by assumption) ?_
      rotate_left
      · (intro w hSw; (try dsimp only at hSw); go_simp; all_goals with_reducible rfl)
      try simp only [Act.put, sA, sB, sC]
      refine wpAnyZ_take (i := 15) (oi := ⟨some 33, _, _, _, _, _⟩) (v := ?_) (by kernel_rfl) (by kernel_rfl) rfl rfl (by kernel_rfl) (by kernel_rfl) (by kernel_rfl) (fun _ _ _ h => h) (Or.inl ⟨by kernel_rfl, ?_⟩) (by assumption) ?_
      rotate_left
      · (intro w hSw; (try dsimp only at hSw); go_simp; all_goals with_reducible rfl)
      try simp only [Act.put, sA, sB, sC]
      refine wpAnyZ_take (i := 16) (oi := ⟨some 34, _, _, _, _, _⟩) (v := ?_) (by kernel_rfl) (by kernel_rfl) rfl rfl (by kernel_rfl) (by kernel_rfl) (by kernel_rfl) (fun _ _ _ h => h) (Or.inl ⟨by kernel_rfl, ?_⟩) (by assumption) ?_
      rotate_left
      · (intro w hSw; (try dsimp only at hSw); go_simp; all_goals with_reducible rfl)
      try simp only [Act.put, sA, sB, sC]
      refine wpAnyZ_take (i := 17) (oi := ⟨some 35, _, _, _, _, _⟩) (v := ?_) (by kernel_rfl) (by kernel_rfl) rfl rfl (by kernel_rfl) (by kernel_rfl) (by kernel_rfl) (fun _ _ _ h => h) (Or.inl ⟨by kernel_rfl, ?_⟩) (by assumption) ?_
      rotate_left
      · (intro w hSw; (try dsimp only at hSw); go_simp; all_goals with_reducible rfl)
      try simp only [Act.put, sA, sB, sC]
      refine wpAnyZ_take (i := 18) (oi := ⟨some 36, _, _, _, _, _⟩) (v := ?_) (by kernel_rfl) (by kernel_rfl) rfl rfl (by kernel_rfl) (by kernel_rfl) (by kernel_rfl) (fun _ _ _ h => h) (Or.inl ⟨by kernel_rfl, ?_⟩) (by assumption) ?_
      rotate_left
      · (intro w hSw; (try dsimp only at hSw); go_simp; all_goals with_reducible rfl)
      try simp only [Act.put, sA, sB, sC]
      refine wpAnyZ_call (q := 19) (by kernel_rfl) rfl rfl (fun K hK => ?_)
      go_simp
      refine (refLegBreath_is nm s G D A (some ⟨lb, lo, none⟩) gn gc dn dc k b q9 _ hgn hdn hok (Lib.hid (hG.out.below (hB.trans (hT0.mono hB.size)))) (Lib.hid (hD.out.below (hB.trans (hT0.mono hB.size)))) hkn b0 b1 hq9).mono ?_
      rintro e v1 ⟨rfl, hbv0⟩
      have hT1 : Below wr.heap.size wr v1 := hT0.trans (hbv0.mono hT0.size)
      clear hbv0
      go_wp2_with fail
      refine hK.out _ _ (HS.out _ hT1) (fun hHeld => ?_)
      clear hK K
      try simp only [Act.put, sA, sB, sC]
      refine wpAnyZ_take (i := 20) (oi := ⟨some 38, _, _, _, _, _⟩) (v := ?_) (by kernel_rfl) (by kernel_rfl) rfl rfl (by kernel_rfl) (by kernel_rfl) (by kernel_rfl) (fun _ _ _ h => h) (Or.inl ⟨by kernel_rfl, ?_⟩) (by assumption) ?_
      rotate_left
      · (intro w hSw; (try dsimp only at hSw); go_simp; all_goals with_reducible rfl)
      try simp only [Act.put, sA, sB, sC]
      refine wpAnyZ_take (i := 21) (oi := ⟨some 39, _, _, _, _, _⟩) (v := ?_) (by kernel_rfl) (by kernel_rfl) rfl rfl (by kernel_rfl) (by kernel_rfl) (by kernel_rfl) (fun _ _ _ h => h) (Or.inl ⟨by kernel_rfl, ?_⟩) (by assumption) ?_
      rotate_left
      · (intro w hSw; (try dsimp only at hSw); go_simp; all_goals with_reducible rfl)
      try simp only [Act.put, sA, sB, sC]
      have hfz := (hO.out.below hT1).fz
      obtain ⟨_, _, _, _, _, hcl⟩ := hHeld
      refine wpAnyZ_last (by kernel_rfl) rfl (fun K hK => ?_)
      go_simp
      go_wp2_with fail
      refine hK.out _ _ ?_
      clear hK K
      try simp only [Act.put, sA, sB, sC]
      have HPn : Hid (BlkF (v1.setCell ⟨ob, gk, none⟩ (.int .i64 s9)) w.heap.size w.heap.size [.string nm, .int .i64 s, .slice A gn gc, .slice (some ⟨lb, lo, none⟩) dn dc]) := Lib.hid ((hP.out.below hT1).other (c := ob) (i := gk) (l := [.int .i64 s9]) (by omega))
      have HOn : Hid (BlkF (v1.setCell ⟨ob, gk, none⟩ (.int .i64 s9)) w.heap.size ob ((conA b (legK s G D) gn (List.range (k + 1))).map fun x => .int .i64 x)) := Lib.hid (by
        have h9 := (hO.out.below hT1).put (i := gk) (.int .i64 s9) (by rw [List.length_map]; omega)
        rw [hCN.out, List.map_set]; exact h9)
      have HBn := Lib.hid ((hB.trans (hT1.mono hB.size)).setCell (p := ⟨ob, gk, none⟩) (show w.heap.size ≤ ob by omega) (.int .i64 s9))
      clear HS hP hO hcl hfz
      go_wp2
      go_roundw
      case rel => exact ⟨k + 1, by omega, by go_num, HPn, HOn, HBn.out⟩
      case measure => simp [intOf]; omega
    · have kn : ¬ (k : Int) < (dn : Int) := by omega
      obtain rfl : k = dn := by omega
      obtain ⟨c0, c1, c2, c3⟩ := b4 hP.out
      go_wp2
      go_ret
      refine ⟨ob, rfl, Or.inr ⟨ob, 0, rfl, hO.out.lt, fun j hj i hi => ?_⟩, hB⟩
      obtain rfl : i = 0 := by omega
      have e : 0 + j * 1 + 0 = j := by omega
      rw [e]
      exact hO.out.at' j _ (by rw [List.getElem?_map, List.getElem?_eq_getElem hj]; rfl)
end Go.Proofs.Ytijdphlejokijaa
