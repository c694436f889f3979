import Derived.Test.YtijdphlejokijaaEKEEnds
import Derived.Test.YtijdphlejokijaaEKEFx
import Derived.Test.YtijdphlejokijaaEKEClk
import Derived.Outline
namespace Go.Proofs.Ytijdphlejokijaa
open Go.ChangeShapes Go.WideShapes Go.ChangeAt Go.RowKit
set_option linter.unusedVariables false
set_option linter.unusedSimpArgs false
attribute [local go_sem ↓] Go.wp_at_zero Go.wp_at_succ

/-- The pressures of oxygen of a leg, in whole numbers. -/
def oxyP (x : Pl) : Int × Int := (oxLo x / 1000, upE (oxHi x) 1000)
set_option maxRecDepth 100000 in
set_option maxHeartbeats 4000000 in
theorem OxygenOn_any (nm : ByteArray) (s : Int) (G : List Ga) (D : List Le) (A B : Option Addr) (gn gc dn dc : Nat) (leg : Int) (N : Nat) (E0 E : Int) (w : World) (hz : nm.size ≤ 9223372036854775807) (hgn : Hid (gn = G.length)) (hgl : gn ≤ 9223372036854775807) (hdn : Hid (dn = D.length)) (hdl : dn ≤ 9223372036854775807) (hG : Hid (SlRows gaV 2 w A G)) (hD : Hid (SlRows leV 3 w B D)) (hE0 : Hid (plnP nm s G D = (N, E0))) (hE : Hid (firE [E0, lgE leg dn] = E)) :
    Calls Try.prog 25 #[.agg #[.string nm, .int .i64 s, .slice A gn gc, .slice B dn dc], .int .i64 leg] w fun e w' => (¬ E = 0 ∧ e = .returned (.tuple #[.agg #[.int .i64 0, .int .i64 0], .int .i64 E]) ∧ Below w.heap.size w w') ∨ (E = 0 ∧ e = .returned (.tuple #[.agg #[.int .i64 (oxyP (legK s G D leg.toNat)).1, .int .i64 (oxyP (legK s G D leg.toNat)).2], .int .i64 0]) ∧ Below w.heap.size w w') := by
  go_enter Try.func25, Try.ntmps25
  go_wp2_with fail
  refine (follow_x nm s G D A B gn gc dn dc N E0 _ hz hgn hgl hdn hdl (Lib.hid (hG.out.below (by (repeat (first | (with_reducible refine Below.drew ?_) | (with_reducible refine below_drewN ?_ _) | (with_reducible refine Below.alloc ?_ (by first | omega | (simp; done) | (simp; omega) | (simp at *; omega)) _) | (with_reducible refine Below.setCell ?_ (by first | omega | (simp; done) | (simp; omega) | (simp at *; omega)) _) | (with_reducible exact Below.refl _ _) | (with_reducible assumption) | (with_reducible refine Below.trans ?_ (Below.mono (by assumption) (by first | omega | (simp; done) | (simp; omega) | (simp at *; omega))))))))) (Lib.hid (hD.out.below (by (repeat (first | (with_reducible refine Below.drew ?_) | (with_reducible refine below_drewN ?_ _) | (with_reducible refine Below.alloc ?_ (by first | omega | (simp; done) | (simp; omega) | (simp at *; omega)) _) | (with_reducible refine Below.setCell ?_ (by first | omega | (simp; done) | (simp; omega) | (simp at *; omega)) _) | (with_reducible exact Below.refl _ _) | (with_reducible assumption) | (with_reducible refine Below.trans ?_ (Below.mono (by assumption) (by first | omega | (simp; done) | (simp; omega) | (simp at *; omega))))))))) hE0).mono ?_
  rintro e x1 ⟨a0, a1, a2, n2, c2, a3, n3, c3, a4, n4, c4, a5, rfl, hn3, hn2, hfg, hb1⟩
  have hc1 : Below w.heap.size w x1 := (((Below.refl _ _).alloc (by first | exact Nat.le_refl _ | (simp; done) | (simp; omega)) _).alloc (by first | exact Nat.le_refl _ | (simp; done) | (simp; omega)) _).trans (hb1.mono (by first | exact Nat.le_refl _ | (simp; done) | (simp; omega)))
  have hB1 : Below w.heap.size w x1 := hc1
  have zu1 := hB1.size
  have PB : Hid (BlkF x1 w.heap.size (w.heap.size) [.string nm, .int .i64 s, .slice A gn gc, .slice B dn dc]) := Lib.hid (((BlkF.made (B := w.heap.size) w [.string nm, .int .i64 s, .slice A gn gc, .slice B dn dc] 40 (by first | exact Nat.le_refl _ | (simp; done) | (simp; omega))).below ((Below.refl _ _).alloc (Nat.le_refl _) _)).below hb1)
  have zPB1 := PB.out.lt
  have ZB : Hid (BlkF x1 w.heap.size (w.heap.size + 1) [.int .i64 0, .int .i64 0]) := Lib.hid (by have := (BlkF.made (B := w.heap.size) (w.alloc (.cells #[.string nm, .int .i64 s, .slice A gn gc, .slice B dn dc] 40)) [.int .i64 0, .int .i64 0] 47 (by first | exact Nat.le_refl _ | (simp; done) | (simp; omega))).below hb1; simpa using this)
  have zZB1 := ZB.out.lt
  have HFG := Lib.hid hfg
  clear hfg
  clear hb1
  obtain ⟨PB_1_0, PB_1_1, PB_1_2, PB_1_3⟩ := b4 PB.out
  have lPB_1 := PB.out.lt
  have nPB_1 : x1.heap.size ≠ w.heap.size := by omega
  have mPB_1 : w.heap.size ≠ x1.heap.size := by omega
  obtain ⟨ZB_1_0, ZB_1_1⟩ := b2 ZB.out
  have lZB_1 := ZB.out.lt
  have nZB_1 : x1.heap.size ≠ w.heap.size + 1 := by omega
  have mZB_1 : w.heap.size + 1 ≠ x1.heap.size := by omega
  obtain ⟨E2, hE2⟩ : ∃ z, Hid (lgE leg n3 = z) := ⟨_, Lib.hid rfl⟩
  have hEE : Hid (firE [E0, E2] = E) := Lib.hid (by rw [← hE.out]; exact fir_x fun h => by rw [← hE2.out, (HFG.out h).1.2.2.2.2.2.2.1])
  go_wp2_with fail
  refine (checkLeg_is a0 a1 a2 n2 c2 a3 n3 c3 a4 n4 c4 a5 leg E2 _ hn3 hE2).mono ?_
  rintro e x2 ⟨rfl, hb2⟩
  have hc2 : Below x1.heap.size x1 x2 := ((Below.refl _ _).alloc (by first | exact Nat.le_refl _ | (simp; done) | (simp; omega)) _).trans (hb2.mono (by first | exact Nat.le_refl _ | (simp; done) | (simp; omega)))
  have hB2 : Below w.heap.size w x2 := hB1.trans (hc2.mono hB1.size)
  have zu2 := hB2.size
  replace HFG := Lib.hid (HFG.out.below hc2)
  replace PB := Lib.hid (PB.out.below hc2)
  replace ZB := Lib.hid (ZB.out.below hc2)
  have FB : Hid (BlkF x2 w.heap.size (x1.heap.size) [.string a0, .int .i64 a1, .slice a2 n2 c2, .slice a3 n3 c3, .slice a4 n4 c4, .int .i64 a5]) := Lib.hid ((BlkF.made (B := w.heap.size) x1 [.string a0, .int .i64 a1, .slice a2 n2 c2, .slice a3 n3 c3, .slice a4 n4 c4, .int .i64 a5] 110 (by first | exact Nat.le_refl _ | exact hB1.size | (simp; done) | (simp; omega))).below hb2)
  have zFB2 := FB.out.lt
  clear PB_1_0 PB_1_1 PB_1_2 PB_1_3 lPB_1 nPB_1 mPB_1 ZB_1_0 ZB_1_1 lZB_1 nZB_1 mZB_1
  clear hb2 hB1 zu1 hc1
  obtain ⟨PB_2_0, PB_2_1, PB_2_2, PB_2_3⟩ := b4 PB.out
  have lPB_2 := PB.out.lt
  have nPB_2 : x2.heap.size ≠ w.heap.size := by omega
  have mPB_2 : w.heap.size ≠ x2.heap.size := by omega
  obtain ⟨ZB_2_0, ZB_2_1⟩ := b2 ZB.out
  have lZB_2 := ZB.out.lt
  have nZB_2 : x2.heap.size ≠ w.heap.size + 1 := by omega
  have mZB_2 : w.heap.size + 1 ≠ x2.heap.size := by omega
  obtain ⟨FB_2_0, FB_2_1, FB_2_2, FB_2_3, FB_2_4, FB_2_5⟩ := b6 FB.out
  have lFB_2 := FB.out.lt
  have nFB_2 : x2.heap.size ≠ x1.heap.size := by omega
  have mFB_2 : x1.heap.size ≠ x2.heap.size := by omega
  go_wp2_with fail
  refine (cFirst2C E0 E2 E x2.heap.size _ hEE (BlkF.made (B := x2.heap.size) x2 [.int .i64 E0, .int .i64 E2] 29 (Nat.le_refl _))).mono ?_
  rintro e x3 ⟨rfl, hb3⟩
  have hc3 : Below x2.heap.size x2 x3 := ((Below.refl _ _).alloc (by first | exact Nat.le_refl _ | (simp; done) | (simp; omega)) _).trans (hb3.mono (by first | exact Nat.le_refl _ | (simp; done) | (simp; omega)))
  have hB3 : Below w.heap.size w x3 := hB2.trans (hc3.mono hB2.size)
  have zu3 := hB3.size
  replace HFG := Lib.hid (HFG.out.below hc3)
  replace PB := Lib.hid (PB.out.below hc3)
  replace ZB := Lib.hid (ZB.out.below hc3)
  replace FB := Lib.hid (FB.out.below hc3)
  have EB : Hid (BlkF x3 w.heap.size (x2.heap.size) [.int .i64 E0, .int .i64 E2]) := Lib.hid ((BlkF.made (B := w.heap.size) x2 [.int .i64 E0, .int .i64 E2] 29 (by first | exact Nat.le_refl _ | exact hB2.size | (simp; done) | (simp; omega))).below hb3)
  have zEB3 := EB.out.lt
  clear PB_2_0 PB_2_1 PB_2_2 PB_2_3 lPB_2 nPB_2 mPB_2 ZB_2_0 ZB_2_1 lZB_2 nZB_2 mZB_2 FB_2_0 FB_2_1 FB_2_2 FB_2_3 FB_2_4 FB_2_5 lFB_2 nFB_2 mFB_2
  clear hb3 hB2 zu2 hc2
  obtain ⟨PB_3_0, PB_3_1, PB_3_2, PB_3_3⟩ := b4 PB.out
  have lPB_3 := PB.out.lt
  have nPB_3 : x3.heap.size ≠ w.heap.size := by omega
  have mPB_3 : w.heap.size ≠ x3.heap.size := by omega
  obtain ⟨ZB_3_0, ZB_3_1⟩ := b2 ZB.out
  have lZB_3 := ZB.out.lt
  have nZB_3 : x3.heap.size ≠ w.heap.size + 1 := by omega
  have mZB_3 : w.heap.size + 1 ≠ x3.heap.size := by omega
  obtain ⟨FB_3_0, FB_3_1, FB_3_2, FB_3_3, FB_3_4, FB_3_5⟩ := b6 FB.out
  have lFB_3 := FB.out.lt
  have nFB_3 : x3.heap.size ≠ x1.heap.size := by omega
  have mFB_3 : x1.heap.size ≠ x3.heap.size := by omega
  obtain ⟨EB_3_0, EB_3_1⟩ := b2 EB.out
  have lEB_3 := EB.out.lt
  have nEB_3 : x3.heap.size ≠ x2.heap.size := by omega
  have mEB_3 : x2.heap.size ≠ x3.heap.size := by omega
  by_cases h0 : ¬ E = 0
  · have hE9 : (E != 0) = true := by simpa using h0
    have fzZ := ZB.out.fz
    go_wp2
    refine bodyPost_ret (v := .tuple #[.agg #[.int .i64 0, .int .i64 0], .int .i64 E]) (by simp [results, Try.results25, go_sem, *]) rfl (Or.inl ⟨h0, rfl, ?_⟩)
    (repeat (first | (with_reducible refine Below.drew ?_) | (with_reducible refine below_drewN ?_ _) | (with_reducible refine Below.alloc ?_ (by first | omega | (simp; done) | (simp; omega) | (simp at *; omega)) _) | (with_reducible refine Below.setCell ?_ (by first | omega | (simp; done) | (simp; omega) | (simp at *; omega)) _) | (with_reducible exact Below.refl _ _) | (with_reducible assumption) | (with_reducible refine Below.trans ?_ (Below.mono (by assumption) (by first | omega | (simp; done) | (simp; omega) | (simp at *; omega))))))
  obtain rfl : E = 0 := by omega
  obtain ⟨rfl, hl0⟩ : E0 = 0 ∧ lgE leg dn = 0 := by
    have := firE_all hE.out
    exact ⟨this _ (by simp), this _ (by simp)⟩
  obtain ⟨⟨rfl, rfl, rfl, rfl, rfl, rfl, rfl, rfl, rfl, rfl⟩, hP⟩ := HFG.out rfl
  have hl1 := lgE_z hl0
  obtain ⟨k, rfl⟩ : ∃ k : Nat, leg = k := ⟨leg.toNat, by omega⟩
  have hok := Lib.hid (pln_ok hE0.out)
  have hkd : k < n3 := by omega
  have HP := Lib.hid hP
  have hPok : Hid (PlOk (legK a1 G D k)) := Lib.hid (legK_ok hok.out (by have := hdn.out; omega))
  obtain ⟨ol, hol⟩ : ∃ z, Hid (oxLo (legK a1 G D k) = z) := ⟨_, Lib.hid rfl⟩
  obtain ⟨oh, hoh⟩ : ∃ z, Hid (oxHi (legK a1 G D k) = z) := ⟨_, Lib.hid rfl⟩
  have bo := ox_bd hPok.out
  rw [hol.out, hoh.out] at bo
  obtain ⟨o1, o2, o3⟩ := bo
  obtain ⟨uh, huh⟩ : ∃ z, Hid (upE oh 1000 = z) := ⟨_, Lib.hid rfl⟩
  have hR : Hid (oxyP (legK a1 G D k) = (ol / 1000, uh)) := Lib.hid (by unfold oxyP; rw [hol.out, hoh.out, huh.out])
  have wq : IntKind.i64.wrap (ol.tdiv 1000) = ol / 1000 := by rw [Int.tdiv_eq_ediv_of_nonneg o1]; exact IntWalk.i64_in _ (by omega)
  clear hP hl0
  go_wp2_with fail
  refine (leg_is a0 a1 G D a2 a3 a4 n2 c2 n3 c3 c4 (secT D n3) k _ hgn hdn hok hkd (Lib.hid (hG.out.below hB3)) (Lib.hid (hD.out.below hB3)) HP).mono ?_
  rintro e x4 ⟨rfl, hb4⟩
  have hc4 : Below x3.heap.size x3 x4 := hb4
  have hB4 : Below w.heap.size w x4 := hB3.trans (hc4.mono hB3.size)
  have zu4 := hB4.size
  replace HFG := Lib.hid (HFG.out.below hc4)
  replace PB := Lib.hid (PB.out.below hc4)
  replace ZB := Lib.hid (ZB.out.below hc4)
  replace FB := Lib.hid (FB.out.below hc4)
  replace EB := Lib.hid (EB.out.below hc4)
  clear PB_3_0 PB_3_1 PB_3_2 PB_3_3 lPB_3 nPB_3 mPB_3 ZB_3_0 ZB_3_1 lZB_3 nZB_3 mZB_3 FB_3_0 FB_3_1 FB_3_2 FB_3_3 FB_3_4 FB_3_5 lFB_3 nFB_3 mFB_3 EB_3_0 EB_3_1 lEB_3 nEB_3 mEB_3
  clear hb4 hB3 zu3 hc3
  obtain ⟨PB_4_0, PB_4_1, PB_4_2, PB_4_3⟩ := b4 PB.out
  have lPB_4 := PB.out.lt
  have nPB_4 : x4.heap.size ≠ w.heap.size := by omega
  have mPB_4 : w.heap.size ≠ x4.heap.size := by omega
  obtain ⟨ZB_4_0, ZB_4_1⟩ := b2 ZB.out
  have lZB_4 := ZB.out.lt
  have nZB_4 : x4.heap.size ≠ w.heap.size + 1 := by omega
  have mZB_4 : w.heap.size + 1 ≠ x4.heap.size := by omega
  obtain ⟨FB_4_0, FB_4_1, FB_4_2, FB_4_3, FB_4_4, FB_4_5⟩ := b6 FB.out
  have lFB_4 := FB.out.lt
  have nFB_4 : x4.heap.size ≠ x1.heap.size := by omega
  have mFB_4 : x1.heap.size ≠ x4.heap.size := by omega
  obtain ⟨EB_4_0, EB_4_1⟩ := b2 EB.out
  have lEB_4 := EB.out.lt
  have nEB_4 : x4.heap.size ≠ x2.heap.size := by omega
  have mEB_4 : x2.heap.size ≠ x4.heap.size := by omega
  go_wp2_with fail
  refine (oxygen_is (legK a1 G D k) ol oh _ hPok hol hoh).mono ?_
  rintro e x5 ⟨rfl, hb5⟩
  have hc5 : Below x4.heap.size x4 x5 := hb5
  have hB5 : Below w.heap.size w x5 := hB4.trans (hc5.mono hB4.size)
  have zu5 := hB5.size
  replace HFG := Lib.hid (HFG.out.below hc5)
  replace PB := Lib.hid (PB.out.below hc5)
  replace ZB := Lib.hid (ZB.out.below hc5)
  replace FB := Lib.hid (FB.out.below hc5)
  replace EB := Lib.hid (EB.out.below hc5)
  clear PB_4_0 PB_4_1 PB_4_2 PB_4_3 lPB_4 nPB_4 mPB_4 ZB_4_0 ZB_4_1 lZB_4 nZB_4 mZB_4 FB_4_0 FB_4_1 FB_4_2 FB_4_3 FB_4_4 FB_4_5 lFB_4 nFB_4 mFB_4 EB_4_0 EB_4_1 lEB_4 nEB_4 mEB_4
  clear hb5 hB4 zu4 hc4
  obtain ⟨PB_5_0, PB_5_1, PB_5_2, PB_5_3⟩ := b4 PB.out
  have lPB_5 := PB.out.lt
  have nPB_5 : x5.heap.size ≠ w.heap.size := by omega
  have mPB_5 : w.heap.size ≠ x5.heap.size := by omega
  obtain ⟨ZB_5_0, ZB_5_1⟩ := b2 ZB.out
  have lZB_5 := ZB.out.lt
  have nZB_5 : x5.heap.size ≠ w.heap.size + 1 := by omega
  have mZB_5 : w.heap.size + 1 ≠ x5.heap.size := by omega
  obtain ⟨FB_5_0, FB_5_1, FB_5_2, FB_5_3, FB_5_4, FB_5_5⟩ := b6 FB.out
  have lFB_5 := FB.out.lt
  have nFB_5 : x5.heap.size ≠ x1.heap.size := by omega
  have mFB_5 : x1.heap.size ≠ x5.heap.size := by omega
  obtain ⟨EB_5_0, EB_5_1⟩ := b2 EB.out
  have lEB_5 := EB.out.lt
  have nEB_5 : x5.heap.size ≠ x2.heap.size := by omega
  have mEB_5 : x2.heap.size ≠ x5.heap.size := by omega
  have hne9 := ZB.out.lt
  go_upto_region 6 with (fail)
  refine wp_worldE (fun u => Below x5.heap.size x5 u ∧ BlkF u w.heap.size (x5.heap.size) [.int .i64 ol, .int .i64 oh]) ⟨(Below.refl _ _).alloc (by first | exact Nat.le_refl _ | (simp; done) | (simp; omega)) _, BlkF.made (B := w.heap.size) x5 [.int .i64 ol, .int .i64 oh] 47 (by first | exact Nat.le_refl _ | exact hB5.size | (simp; done) | (simp; omega))⟩ (fun x6 hu6 => ?_)
  obtain ⟨hc6, qOB⟩ := hu6
  have OB := Lib.hid qOB
  clear qOB
  have hB6 : Below w.heap.size w x6 := hB5.trans (hc6.mono hB5.size)
  have zu6 := hB6.size
  replace HFG := Lib.hid (HFG.out.below hc6)
  replace PB := Lib.hid (PB.out.below hc6)
  replace ZB := Lib.hid (ZB.out.below hc6)
  replace FB := Lib.hid (FB.out.below hc6)
  replace EB := Lib.hid (EB.out.below hc6)
  clear PB_5_0 PB_5_1 PB_5_2 PB_5_3 lPB_5 nPB_5 mPB_5 ZB_5_0 ZB_5_1 lZB_5 nZB_5 mZB_5 FB_5_0 FB_5_1 FB_5_2 FB_5_3 FB_5_4 FB_5_5 lFB_5 nFB_5 mFB_5 EB_5_0 EB_5_1 lEB_5 nEB_5 mEB_5
  clear hB5 zu5 hc5
  obtain ⟨PB_6_0, PB_6_1, PB_6_2, PB_6_3⟩ := b4 PB.out
  have lPB_6 := PB.out.lt
  have nPB_6 : x6.heap.size ≠ w.heap.size := by omega
  have mPB_6 : w.heap.size ≠ x6.heap.size := by omega
  obtain ⟨ZB_6_0, ZB_6_1⟩ := b2 ZB.out
  have lZB_6 := ZB.out.lt
  have nZB_6 : x6.heap.size ≠ w.heap.size + 1 := by omega
  have mZB_6 : w.heap.size + 1 ≠ x6.heap.size := by omega
  obtain ⟨FB_6_0, FB_6_1, FB_6_2, FB_6_3, FB_6_4, FB_6_5⟩ := b6 FB.out
  have lFB_6 := FB.out.lt
  have nFB_6 : x6.heap.size ≠ x1.heap.size := by omega
  have mFB_6 : x1.heap.size ≠ x6.heap.size := by omega
  obtain ⟨EB_6_0, EB_6_1⟩ := b2 EB.out
  have lEB_6 := EB.out.lt
  have nEB_6 : x6.heap.size ≠ x2.heap.size := by omega
  have mEB_6 : x2.heap.size ≠ x6.heap.size := by omega
  obtain ⟨OB_6_0, OB_6_1⟩ := b2 OB.out
  have lOB_6 := OB.out.lt
  have nOB_6 : x6.heap.size ≠ x5.heap.size := by omega
  have mOB_6 : x5.heap.size ≠ x6.heap.size := by omega
  obtain ⟨rb, hrb⟩ : ∃ z, w.heap.size + 1 = z := ⟨_, rfl⟩
  rw [hrb] at ZB hne9
  try rw [hrb]
  have HNrb := ZB
  have hrl := ZB.out.lt
  have hge : w.heap.size ≤ rb := by omega
  clear hrb
  have HS : Hid (∀ y, Below x6.heap.size x6 y → y.cell? ⟨x5.heap.size, 0, none⟩ = some (.int .i64 ol) ∧ y.cell? ⟨x5.heap.size, 1, none⟩ = some (.int .i64 oh)) := Lib.hid fun y hy => ⟨(hy.cell (p := ⟨x5.heap.size, 0, none⟩) lOB_6).trans OB_6_0, (hy.cell (p := ⟨x5.heap.size, 1, none⟩) lOB_6).trans OB_6_1⟩
  refine wp_region_held_drew (S := (fun w' => w'.cell? ⟨x5.heap.size, 0, none⟩ = some (.int .i64 ol) ∧ w'.cell? ⟨x5.heap.size, 1, none⟩ = some (.int .i64 oh))) (by kernel_rfl) (HS.out _ (Below.refl _ _).drew) (fun hHeld => ?_)
  have hT0 : Below x6.heap.size x6 x6.drew := (Below.refl _ _).drew
  replace HNrb := Lib.hid (HNrb.out.below (Below.refl x6.heap.size x6).drew)
  generalize hdr : x6.drew = y0 at *
  clear hdr
  refine tkH 0 ⟨some 28, _, _, _, _, _⟩ ?_ rfl ?_ (by assumption) ?_
  rotate_left
  · (intro w hSw; (try dsimp only at hSw); go_simp; all_goals with_reducible rfl)
  try simp only [Act.put, sA, sB, sC]
  refine tkH 1 ⟨some 29, _, _, _, _, _⟩ ?_ rfl ?_ (by assumption) ?_
  rotate_left
  · (intro w hSw; (try dsimp only at hSw); go_simp; all_goals with_reducible rfl)
  try simp only [Act.put, sA, sB, sC]
  refine tkH 2 ⟨some 30, _, _, _, _, _⟩ ?_ rfl ?_ (by assumption) ?_
  rotate_left
  · (intro w hSw; (try dsimp only at hSw); go_simp; all_goals with_reducible rfl)
  try simp only [Act.put, sA, sB, sC]
  refine tkH 3 ⟨some 31, _, _, _, _, _⟩ ?_ rfl ?_ (by assumption) ?_
  rotate_left
  · (intro w hSw; (try dsimp only at hSw); go_simp; all_goals with_reducible rfl)
  try simp only [Act.put, sA, sB, sC]
  refine tkH 4 ⟨some 32, _, _, _, _, _⟩ ?_ rfl ?_ (by assumption) ?_
  rotate_left
  · (intro w hSw; (try dsimp only at hSw); go_simp; all_goals with_reducible rfl)
  try simp only [Act.put, sA, sB, sC]
  refine wpAnyH_ready (rs := [5]) (by kernel_rfl) (by simp) ?_
  refine AllReadyH.cons rfl (fun K hK => ?_) (AllReadyH.nil)
  go_simp
  refine (dividedUp_b oh 1000 uh _ (by omega) (by omega) (by omega) (by omega) huh).mono ?_
  rintro e y1 ⟨rfl, hby0⟩
  have hT1 : Below x6.heap.size x6 y1 := hT0.trans (hby0.mono hT0.size)
  replace HNrb := Lib.hid (HNrb.out.below hby0)
  clear hby0
  go_wp2_with fail
  refine hK.out _ _ (HS.out _ hT1) (fun hHeld => ?_)
  clear hK K
  try simp only [Act.put, sA, sB, sC]
  refine tkH 6 ⟨some 34, _, _, _, _, _⟩ ?_ rfl ?_ (by assumption) ?_
  rotate_left
  · (intro w hSw; (try dsimp only at hSw); go_simp; all_goals with_reducible rfl)
  try simp only [Act.put, sA, sB, sC]
  refine wpAnyH_ready (rs := [7]) (by kernel_rfl) (by simp) ?_
  refine AllReadyH.cons rfl (fun K hK => ?_) (AllReadyH.nil)
  have HBs := Lib.hid (BlkF.st (vs' := [.int .i64 (ol / 1000), .int .i64 uh]) HNrb.out rfl)
  have hTs := Lib.hid (stW_below (N := w.heap.size) (w := w) HNrb.out.ge [.int .i64 (ol / 1000), .int .i64 uh] y1 0 (hB6.trans (hT1.mono hB6.size)))
  have hSs : ((y1.setCell ⟨rb, 0, none⟩ (.int .i64 (ol / 1000))).setCell ⟨rb, 1, none⟩ (.int .i64 uh)).cell? ⟨x5.heap.size, 0, none⟩ = some (.int .i64 ol) ∧ ((y1.setCell ⟨rb, 0, none⟩ (.int .i64 (ol / 1000))).setCell ⟨rb, 1, none⟩ (.int .i64 uh)).cell? ⟨x5.heap.size, 1, none⟩ = some (.int .i64 oh) := by
    obtain ⟨h0, h1⟩ := hHeld
    exact ⟨(stW_oc (l := [.int .i64 (ol / 1000), .int .i64 uh]) (i := 0) (show x5.heap.size ≠ rb by omega) (0)).trans h0, (stW_oc (l := [.int .i64 (ol / 1000), .int .i64 uh]) (i := 0) (show x5.heap.size ≠ rb by omega) (1)).trans h1⟩
  obtain ⟨k0, k1⟩ := b2 HNrb.out
  have kf := HNrb.out.fz
  go_simp
  go_wp2_with fail
  refine hK.out _ _ hSs (fun hHeld => ?_)
  clear hK K kf hSs k0 k1
  try simp only [Act.put, sA, sB, sC]
  refine tkH 8 ⟨some 5, _, _, _, _, _⟩ ?_ rfl ?_ (by assumption) ?_
  rotate_left
  · (intro w hSw; (try dsimp only at hSw); go_simp; all_goals with_reducible rfl)
  try simp only [Act.put, sA, sB, sC]
  refine wpAnyH_done (by kernel_rfl) ?_ _
  refine ex_world (fun vz => BlkF vz w.heap.size rb [.int .i64 (ol / 1000), .int .i64 uh] ∧ Below w.heap.size w vz) ⟨HBs.out, hTs.out⟩ (fun vz hvz => ?_)
  obtain ⟨HBz, hTz⟩ := hvz
  clear hHeld HS HBs hTs 
  obtain ⟨r0, r1⟩ := b2 HBz
  have hTz2 := Lib.hid hTz
  clear HBz hTz
  go_wp2
  refine bodyPost_ret (v := .tuple #[.agg #[.int .i64 (ol / 1000), .int .i64 uh], .int .i64 0]) (by simp [results, Try.results25, go_sem, *]) rfl ?_
  first | exact Or.inr ⟨rfl, by rw [Int.toNat_natCast, hR.out], hTz2.out⟩ | exact ⟨by rw [Int.toNat_natCast, hR.out], hTz2.out⟩ | exact ⟨by rw [hR.out], hTz2.out⟩
theorem floorB (n d q : Int) (w : World) (h0 : 0 ≤ n) (h1 : n ≤ 1000000000000000000) (h2 : 0 < d) (h3 : d ≤ 1000000000000000000) (hq : Hid (n / d = q)) : Calls Try.prog 77 #[.int .i64 n, .int .i64 d] w fun e w' => e = .returned (.int .i64 q) ∧ Below w.heap.size w w' := (baseFloor_nn n d w h0 h1 h2 h3).mono fun e w' h => ⟨by rw [h.1, hq.out], by rw [← h.2]; exact Below.refl _ _⟩
theorem ceilB (n d q : Int) (w : World) (h0 : 0 ≤ n) (h1 : n ≤ 1000000000000000000) (h2 : 0 < d) (h3 : d ≤ 1000000000000000000) (hq : Hid (upE n d = q)) : Calls Try.prog 78 #[.int .i64 n, .int .i64 d] w fun e w' => e = .returned (.int .i64 q) ∧ Below w.heap.size w w' := (baseCeil_e n d q w h0 h1 h2 h3 hq).mono fun e w' h => ⟨h.1, by rw [← h.2]; exact Below.refl _ _⟩
set_option maxRecDepth 100000 in
set_option maxHeartbeats 4000000 in
theorem refOxygenOn_is (nm : ByteArray) (s : Int) (G : List Ga) (D : List Le) (A B : Option Addr) (gn gc dn dc : Nat) (k : Nat) (w : World) (hgn : Hid (gn = G.length)) (hdn : Hid (dn = D.length)) (hok : Hid (PlnOk nm s G D)) (hG : Hid (SlRows gaV 2 w A G)) (hD : Hid (SlRows leV 3 w B D)) (hk : k < dn) :
    Calls Try.prog 27 #[.agg #[.string nm, .int .i64 s, .slice A gn gc, .slice B dn dc], .int .i64 (k : Int)] w fun e w' => e = .returned (.agg #[.int .i64 (oxyP (legK s G D k)).1, .int .i64 (oxyP (legK s G D k)).2]) ∧ Below w.heap.size w w' := by
  have hkD : k < D.length := by have := hdn.out; omega
  have hPok := legK_ok hok.out hkD
  obtain ⟨y, hy⟩ : ∃ z, Hid (legK s G D k = z) := ⟨_, Lib.hid rfl⟩
  have HEN := Lib.hid (fun X hG hD => refEnds_is nm s G D A B gn gc dn dc k X hgn hdn hok hk hG hD)
  rw [hy.out] at hPok HEN ⊢
  have bo := ox_bd hPok
  have hsu := hPok.su
  have hbd := hPok.bd
  have hdd := hPok.d
  obtain ⟨ys, yd, yg, ynu, ybs, ybd, ysu, yo, yh⟩ := y
  dsimp only at *
  obtain ⟨pl, hpl⟩ : ∃ z, Hid (oxLo ⟨ys, yd, yg, ynu, ybs, ybd, ysu, yo, yh⟩ = z) := ⟨_, Lib.hid rfl⟩
  obtain ⟨ph, hph⟩ : ∃ z, Hid (oxHi ⟨ys, yd, yg, ynu, ybs, ybd, ysu, yo, yh⟩ = z) := ⟨_, Lib.hid rfl⟩
  rw [hpl.out, hph.out] at bo
  obtain ⟨l0, l1, l2⟩ := bo
  obtain ⟨ol, hfl⟩ : ∃ z, Hid (pl / 1000 = z) := ⟨_, Lib.hid rfl⟩
  obtain ⟨uh, huh⟩ : ∃ z, Hid (upE ph 1000 = z) := ⟨_, Lib.hid rfl⟩
  have hR : Hid (oxyP ⟨ys, yd, yg, ynu, ybs, ybd, ysu, yo, yh⟩ = (ol, uh)) := Lib.hid (by unfold oxyP; rw [hpl.out, hph.out, huh.out, hfl.out])
  have hpl' := hpl.out
  have hph' := hph.out
  unfold oxLo at hpl'
  unfold oxHi at hph'
  dsimp only at hpl' hph'
  obtain ⟨pa, hpa⟩ : ∃ z, ysu + ybd = z := ⟨_, rfl⟩
  obtain ⟨pb, hpb⟩ : ∃ z, ysu + yd = z := ⟨_, rfl⟩
  rw [hpa, hpb] at HEN
  by_cases hle : pa ≤ pb
  · have hm1 : ysu + min ybd yd = pa := by omega
    have hm2 : ysu + max ybd yd = pb := by omega
    rw [hm1] at hpl'
    rw [hm2] at hph'
    have e1 : (if pb < pa then pb else pa) = pa := by split <;> omega
    have e2 : (if pa < pb then pb else pa) = pb := by split <;> omega
    have w1 : IntKind.i64.wrap (yo * pa) = pl := by rw [hpl']; exact IntWalk.i64_in _ (by omega)
    have w2 : IntKind.i64.wrap (yo * pb) = ph := by rw [hph']; exact IntWalk.i64_in _ (by omega)
    clear hpa hpb hm1 hm2 hpl' hph'
    go_enter Try.func27, Try.ntmps27
    go_wp2_with fail
    refine (HEN.out _ (Lib.hid (hG.out.below (by (repeat (first | (with_reducible refine Below.drew ?_) | (with_reducible refine below_drewN ?_ _) | (with_reducible refine Below.alloc ?_ (by first | omega | (simp; done) | (simp; omega) | (simp at *; omega)) _) | (with_reducible refine Below.setCell ?_ (by first | omega | (simp; done) | (simp; omega) | (simp at *; omega)) _) | (with_reducible exact Below.refl _ _) | (with_reducible assumption) | (with_reducible refine Below.trans ?_ (Below.mono (by assumption) (by first | omega | (simp; done) | (simp; omega) | (simp at *; omega))))))))) (Lib.hid (hD.out.below (by (repeat (first | (with_reducible refine Below.drew ?_) | (with_reducible refine below_drewN ?_ _) | (with_reducible refine Below.alloc ?_ (by first | omega | (simp; done) | (simp; omega) | (simp at *; omega)) _) | (with_reducible refine Below.setCell ?_ (by first | omega | (simp; done) | (simp; omega) | (simp at *; omega)) _) | (with_reducible exact Below.refl _ _) | (with_reducible assumption) | (with_reducible refine Below.trans ?_ (Below.mono (by assumption) (by first | omega | (simp; done) | (simp; omega) | (simp at *; omega)))))))))).mono ?_
    rintro e x1 ⟨rfl, hb1⟩
    have hc1 : Below w.heap.size w x1 := (((Below.refl _ _).alloc (by first | exact Nat.le_refl _ | (simp; done) | (simp; omega)) _).alloc (by first | exact Nat.le_refl _ | (simp; done) | (simp; omega)) _).trans (hb1.mono (by first | exact Nat.le_refl _ | (simp; done) | (simp; omega)))
    have hB1 : Below w.heap.size w x1 := hc1
    have zu1 := hB1.size
    have PB : Hid (BlkF x1 w.heap.size (w.heap.size) [.string nm, .int .i64 s, .slice A gn gc, .slice B dn dc]) := Lib.hid (((BlkF.made (B := w.heap.size) w [.string nm, .int .i64 s, .slice A gn gc, .slice B dn dc] 40 (by first | exact Nat.le_refl _ | (simp; done) | (simp; omega))).below ((Below.refl _ _).alloc (Nat.le_refl _) _)).below hb1)
    have zPB1 := PB.out.lt
    have ZB : Hid (BlkF x1 w.heap.size (w.heap.size + 1) [.int .i64 0, .int .i64 0]) := Lib.hid (by have := (BlkF.made (B := w.heap.size) (w.alloc (.cells #[.string nm, .int .i64 s, .slice A gn gc, .slice B dn dc] 40)) [.int .i64 0, .int .i64 0] 47 (by first | exact Nat.le_refl _ | (simp; done) | (simp; omega))).below hb1; simpa using this)
    have zZB1 := ZB.out.lt
    clear hb1
    obtain ⟨PB_1_0, PB_1_1, PB_1_2, PB_1_3⟩ := b4 PB.out
    have lPB_1 := PB.out.lt
    have nPB_1 : x1.heap.size ≠ w.heap.size := by omega
    have mPB_1 : w.heap.size ≠ x1.heap.size := by omega
    obtain ⟨ZB_1_0, ZB_1_1⟩ := b2 ZB.out
    have lZB_1 := ZB.out.lt
    have nZB_1 : x1.heap.size ≠ w.heap.size + 1 := by omega
    have mZB_1 : w.heap.size + 1 ≠ x1.heap.size := by omega
    have hne9 := ZB.out.lt
    go_upto_region 2 with (fail)
    refine wp_worldE (fun u => Below x1.heap.size x1 u ∧ BlkF u w.heap.size (x1.heap.size) [.int .i64 yo, .int .i64 yh]) ⟨(Below.refl _ _).alloc (by first | exact Nat.le_refl _ | (simp; done) | (simp; omega)) _, BlkF.made (B := w.heap.size) x1 [.int .i64 yo, .int .i64 yh] 72 (by first | exact Nat.le_refl _ | exact hB1.size | (simp; done) | (simp; omega))⟩ (fun x2 hu2 => ?_)
    obtain ⟨hc2, qGB⟩ := hu2
    have GB := Lib.hid qGB
    clear qGB
    have hB2 : Below w.heap.size w x2 := hB1.trans (hc2.mono hB1.size)
    have zu2 := hB2.size
    replace PB := Lib.hid (PB.out.below hc2)
    replace ZB := Lib.hid (ZB.out.below hc2)
    clear PB_1_0 PB_1_1 PB_1_2 PB_1_3 lPB_1 nPB_1 mPB_1 ZB_1_0 ZB_1_1 lZB_1 nZB_1 mZB_1
    clear hB1 zu1 hc1
    obtain ⟨PB_2_0, PB_2_1, PB_2_2, PB_2_3⟩ := b4 PB.out
    have lPB_2 := PB.out.lt
    have nPB_2 : x2.heap.size ≠ w.heap.size := by omega
    have mPB_2 : w.heap.size ≠ x2.heap.size := by omega
    obtain ⟨ZB_2_0, ZB_2_1⟩ := b2 ZB.out
    have lZB_2 := ZB.out.lt
    have nZB_2 : x2.heap.size ≠ w.heap.size + 1 := by omega
    have mZB_2 : w.heap.size + 1 ≠ x2.heap.size := by omega
    obtain ⟨GB_2_0, GB_2_1⟩ := b2 GB.out
    have lGB_2 := GB.out.lt
    have nGB_2 : x2.heap.size ≠ x1.heap.size := by omega
    have mGB_2 : x1.heap.size ≠ x2.heap.size := by omega
    obtain ⟨rb, hrb⟩ : ∃ z, w.heap.size + 1 = z := ⟨_, rfl⟩
    rw [hrb] at ZB hne9
    try rw [hrb]
    have HNrb := ZB
    have hrl := ZB.out.lt
    have hge : w.heap.size ≤ rb := by omega
    clear hrb
    have HS : Hid (∀ y, Below x2.heap.size x2 y → y.cell? ⟨x1.heap.size, 0, none⟩ = some (.int .i64 yo) ∧ y.cell? ⟨x1.heap.size, 1, none⟩ = some (.int .i64 yh)) := Lib.hid fun y hy => ⟨(hy.cell (p := ⟨x1.heap.size, 0, none⟩) lGB_2).trans GB_2_0, (hy.cell (p := ⟨x1.heap.size, 1, none⟩) lGB_2).trans GB_2_1⟩
    refine wp_region_held_drew (S := (fun w' => w'.cell? ⟨x1.heap.size, 0, none⟩ = some (.int .i64 yo) ∧ w'.cell? ⟨x1.heap.size, 1, none⟩ = some (.int .i64 yh))) (by kernel_rfl) (HS.out _ (Below.refl _ _).drew) (fun hHeld => ?_)
    have hT0 : Below x2.heap.size x2 x2.drew := (Below.refl _ _).drew
    replace HNrb := Lib.hid (HNrb.out.below (Below.refl x2.heap.size x2).drew)
    generalize hdr : x2.drew = y0 at *
    clear hdr
    refine tkH 0 ⟨some 15, _, _, _, _, _⟩ ?_ rfl ?_ (by assumption) ?_
    rotate_left
    · (intro w hSw; (try dsimp only at hSw); go_simp; all_goals with_reducible rfl)
    try simp only [Act.put, sA, sB, sC]
    refine tkH 1 ⟨some 16, _, _, _, _, _⟩ ?_ rfl ?_ (by assumption) ?_
    rotate_left
    · (intro w hSw; (try dsimp only at hSw); go_simp; all_goals with_reducible rfl)
    try simp only [Act.put, sA, sB, sC]
    refine tkH 2 ⟨some 17, _, _, _, _, _⟩ ?_ rfl ?_ (by assumption) ?_
    rotate_left
    · (intro w hSw; (try dsimp only at hSw); go_simp; all_goals with_reducible rfl)
    try simp only [Act.put, sA, sB, sC]
    refine tkH 3 ⟨some 18, _, _, _, _, _⟩ ?_ rfl ?_ (by assumption) ?_
    rotate_left
    · (intro w hSw; (try dsimp only at hSw); go_simp; all_goals with_reducible rfl)
    try simp only [Act.put, sA, sB, sC]
    refine tkH 4 ⟨some 19, _, _, _, _, _⟩ ?_ rfl ?_ (by assumption) ?_
    rotate_left
    · (intro w hSw; (try dsimp only at hSw); go_simp; (try simp only [e1, e2]); all_goals with_reducible rfl)
    try simp only [Act.put, sA, sB, sC]
    refine tkH 5 ⟨some 20, _, _, _, _, _⟩ ?_ rfl ?_ (by assumption) ?_
    rotate_left
    · (intro w hSw; (try dsimp only at hSw); go_simp; all_goals with_reducible rfl)
    try simp only [Act.put, sA, sB, sC]
    refine tkH 7 ⟨some 22, _, _, _, _, _⟩ ?_ rfl ?_ (by assumption) ?_
    rotate_left
    · (intro w hSw; (try dsimp only at hSw); go_simp; all_goals with_reducible rfl)
    try simp only [Act.put, sA, sB, sC]
    refine tkH 8 ⟨some 23, _, _, _, _, _⟩ ?_ rfl ?_ (by assumption) ?_
    rotate_left
    · (intro w hSw; (try dsimp only at hSw); go_simp; all_goals with_reducible rfl)
    try simp only [Act.put, sA, sB, sC]
    refine tkH 9 ⟨some 24, _, _, _, _, _⟩ ?_ rfl ?_ (by assumption) ?_
    rotate_left
    · (intro w hSw; (try dsimp only at hSw); go_simp; all_goals with_reducible rfl)
    try simp only [Act.put, sA, sB, sC]
    refine tkH 10 ⟨some 25, _, _, _, _, _⟩ ?_ rfl ?_ (by assumption) ?_
    rotate_left
    · (intro w hSw; (try dsimp only at hSw); go_simp; all_goals with_reducible rfl)
    try simp only [Act.put, sA, sB, sC]
    refine tkH 11 ⟨some 26, _, _, _, _, _⟩ ?_ rfl ?_ (by assumption) ?_
    rotate_left
    · (intro w hSw; (try dsimp only at hSw); go_simp; (try simp only [e1, e2]); all_goals with_reducible rfl)
    try simp only [Act.put, sA, sB, sC]
    refine tkH 12 ⟨some 27, _, _, _, _, _⟩ ?_ rfl ?_ (by assumption) ?_
    rotate_left
    · (intro w hSw; (try dsimp only at hSw); go_simp; all_goals with_reducible rfl)
    try simp only [Act.put, sA, sB, sC]
    refine wpAnyH_ready (rs := [6]) (by kernel_rfl) (by simp) ?_
    refine AllReadyH.cons rfl (fun K hK => ?_) (AllReadyH.nil)
    go_simp
    refine (floorB pl 1000 ol _ l0 (by omega) (by omega) (by omega) hfl).mono ?_
    rintro e y1 ⟨rfl, hby0⟩
    have hT1 : Below x2.heap.size x2 y1 := hT0.trans (hby0.mono hT0.size)
    replace HNrb := Lib.hid (HNrb.out.below hby0)
    clear hby0
    go_wp2_with fail
    refine hK.out _ _ (HS.out _ hT1) (fun hHeld => ?_)
    clear hK K
    try simp only [Act.put, sA, sB, sC]
    refine wpAnyH_ready (rs := [13]) (by kernel_rfl) (by simp) ?_
    refine AllReadyH.cons rfl (fun K hK => ?_) (AllReadyH.nil)
    go_simp
    refine (ceilB ph 1000 uh _ (by omega) (by omega) (by omega) (by omega) huh).mono ?_
    rintro e y2 ⟨rfl, hby1⟩
    have hT2 : Below x2.heap.size x2 y2 := hT1.trans (hby1.mono hT1.size)
    replace HNrb := Lib.hid (HNrb.out.below hby1)
    clear hby1
    go_wp2_with fail
    refine hK.out _ _ (HS.out _ hT2) (fun hHeld => ?_)
    clear hK K
    try simp only [Act.put, sA, sB, sC]
    refine tkH 14 ⟨some 29, _, _, _, _, _⟩ ?_ rfl ?_ (by assumption) ?_
    rotate_left
    · (intro w hSw; (try dsimp only at hSw); go_simp; all_goals with_reducible rfl)
    try simp only [Act.put, sA, sB, sC]
    refine wpAnyH_ready (rs := [15]) (by kernel_rfl) (by simp) ?_
    refine AllReadyH.cons rfl (fun K hK => ?_) (AllReadyH.nil)
    have HBs := Lib.hid (BlkF.st (vs' := [.int .i64 ol, .int .i64 uh]) HNrb.out rfl)
    have hTs := Lib.hid (stW_below (N := w.heap.size) (w := w) HNrb.out.ge [.int .i64 ol, .int .i64 uh] y2 0 (hB2.trans (hT2.mono hB2.size)))
    have hSs : ((y2.setCell ⟨rb, 0, none⟩ (.int .i64 ol)).setCell ⟨rb, 1, none⟩ (.int .i64 uh)).cell? ⟨x1.heap.size, 0, none⟩ = some (.int .i64 yo) ∧ ((y2.setCell ⟨rb, 0, none⟩ (.int .i64 ol)).setCell ⟨rb, 1, none⟩ (.int .i64 uh)).cell? ⟨x1.heap.size, 1, none⟩ = some (.int .i64 yh) := by
      obtain ⟨h0, h1⟩ := hHeld
      exact ⟨(stW_oc (l := [.int .i64 ol, .int .i64 uh]) (i := 0) (show x1.heap.size ≠ rb by omega) (0)).trans h0, (stW_oc (l := [.int .i64 ol, .int .i64 uh]) (i := 0) (show x1.heap.size ≠ rb by omega) (1)).trans h1⟩
    obtain ⟨k0, k1⟩ := b2 HNrb.out
    have kf := HNrb.out.fz
    go_simp
    go_wp2_with fail
    refine hK.out _ _ hSs (fun hHeld => ?_)
    clear hK K kf hSs k0 k1
    try simp only [Act.put, sA, sB, sC]
    refine wpAnyH_done (by kernel_rfl) ?_ _
    refine ex_world (fun vz => BlkF vz w.heap.size rb [.int .i64 ol, .int .i64 uh] ∧ Below w.heap.size w vz) ⟨HBs.out, hTs.out⟩ (fun vz hvz => ?_)
    obtain ⟨HBz, hTz⟩ := hvz
    clear hHeld HS HBs hTs 
    obtain ⟨r0, r1⟩ := b2 HBz
    have hTz2 := Lib.hid hTz
    clear HBz hTz
    go_wp2
    refine bodyPost_ret (v := .agg #[.int .i64 ol, .int .i64 uh]) (by simp [results, Try.results27, go_sem, *]) rfl ⟨by rw [hR.out], hTz2.out⟩
  · have hlt : pb < pa := by omega
    have hm1 : ysu + min ybd yd = pb := by omega
    have hm2 : ysu + max ybd yd = pa := by omega
    rw [hm1] at hpl'
    rw [hm2] at hph'
    have e1 : (if pb < pa then pb else pa) = pb := by split <;> omega
    have e2 : (if pa < pb then pb else pa) = pa := by split <;> omega
    have w1 : IntKind.i64.wrap (yo * pb) = pl := by rw [hpl']; exact IntWalk.i64_in _ (by omega)
    have w2 : IntKind.i64.wrap (yo * pa) = ph := by rw [hph']; exact IntWalk.i64_in _ (by omega)
    clear hpa hpb hm1 hm2 hpl' hph'
    go_enter Try.func27, Try.ntmps27
    go_wp2_with fail
    refine (HEN.out _ (Lib.hid (hG.out.below (by (repeat (first | (with_reducible refine Below.drew ?_) | (with_reducible refine below_drewN ?_ _) | (with_reducible refine Below.alloc ?_ (by first | omega | (simp; done) | (simp; omega) | (simp at *; omega)) _) | (with_reducible refine Below.setCell ?_ (by first | omega | (simp; done) | (simp; omega) | (simp at *; omega)) _) | (with_reducible exact Below.refl _ _) | (with_reducible assumption) | (with_reducible refine Below.trans ?_ (Below.mono (by assumption) (by first | omega | (simp; done) | (simp; omega) | (simp at *; omega))))))))) (Lib.hid (hD.out.below (by (repeat (first | (with_reducible refine Below.drew ?_) | (with_reducible refine below_drewN ?_ _) | (with_reducible refine Below.alloc ?_ (by first | omega | (simp; done) | (simp; omega) | (simp at *; omega)) _) | (with_reducible refine Below.setCell ?_ (by first | omega | (simp; done) | (simp; omega) | (simp at *; omega)) _) | (with_reducible exact Below.refl _ _) | (with_reducible assumption) | (with_reducible refine Below.trans ?_ (Below.mono (by assumption) (by first | omega | (simp; done) | (simp; omega) | (simp at *; omega)))))))))).mono ?_
    rintro e x1 ⟨rfl, hb1⟩
    have hc1 : Below w.heap.size w x1 := (((Below.refl _ _).alloc (by first | exact Nat.le_refl _ | (simp; done) | (simp; omega)) _).alloc (by first | exact Nat.le_refl _ | (simp; done) | (simp; omega)) _).trans (hb1.mono (by first | exact Nat.le_refl _ | (simp; done) | (simp; omega)))
    have hB1 : Below w.heap.size w x1 := hc1
    have zu1 := hB1.size
    have PB : Hid (BlkF x1 w.heap.size (w.heap.size) [.string nm, .int .i64 s, .slice A gn gc, .slice B dn dc]) := Lib.hid (((BlkF.made (B := w.heap.size) w [.string nm, .int .i64 s, .slice A gn gc, .slice B dn dc] 40 (by first | exact Nat.le_refl _ | (simp; done) | (simp; omega))).below ((Below.refl _ _).alloc (Nat.le_refl _) _)).below hb1)
    have zPB1 := PB.out.lt
    have ZB : Hid (BlkF x1 w.heap.size (w.heap.size + 1) [.int .i64 0, .int .i64 0]) := Lib.hid (by have := (BlkF.made (B := w.heap.size) (w.alloc (.cells #[.string nm, .int .i64 s, .slice A gn gc, .slice B dn dc] 40)) [.int .i64 0, .int .i64 0] 47 (by first | exact Nat.le_refl _ | (simp; done) | (simp; omega))).below hb1; simpa using this)
    have zZB1 := ZB.out.lt
    clear hb1
    obtain ⟨PB_1_0, PB_1_1, PB_1_2, PB_1_3⟩ := b4 PB.out
    have lPB_1 := PB.out.lt
    have nPB_1 : x1.heap.size ≠ w.heap.size := by omega
    have mPB_1 : w.heap.size ≠ x1.heap.size := by omega
    obtain ⟨ZB_1_0, ZB_1_1⟩ := b2 ZB.out
    have lZB_1 := ZB.out.lt
    have nZB_1 : x1.heap.size ≠ w.heap.size + 1 := by omega
    have mZB_1 : w.heap.size + 1 ≠ x1.heap.size := by omega
    have hne9 := ZB.out.lt
    go_upto_region 2 with (fail)
    refine wp_worldE (fun u => Below x1.heap.size x1 u ∧ BlkF u w.heap.size (x1.heap.size) [.int .i64 yo, .int .i64 yh]) ⟨(Below.refl _ _).alloc (by first | exact Nat.le_refl _ | (simp; done) | (simp; omega)) _, BlkF.made (B := w.heap.size) x1 [.int .i64 yo, .int .i64 yh] 72 (by first | exact Nat.le_refl _ | exact hB1.size | (simp; done) | (simp; omega))⟩ (fun x2 hu2 => ?_)
    obtain ⟨hc2, qGB⟩ := hu2
    have GB := Lib.hid qGB
    clear qGB
    have hB2 : Below w.heap.size w x2 := hB1.trans (hc2.mono hB1.size)
    have zu2 := hB2.size
    replace PB := Lib.hid (PB.out.below hc2)
    replace ZB := Lib.hid (ZB.out.below hc2)
    clear PB_1_0 PB_1_1 PB_1_2 PB_1_3 lPB_1 nPB_1 mPB_1 ZB_1_0 ZB_1_1 lZB_1 nZB_1 mZB_1
    clear hB1 zu1 hc1
    obtain ⟨PB_2_0, PB_2_1, PB_2_2, PB_2_3⟩ := b4 PB.out
    have lPB_2 := PB.out.lt
    have nPB_2 : x2.heap.size ≠ w.heap.size := by omega
    have mPB_2 : w.heap.size ≠ x2.heap.size := by omega
    obtain ⟨ZB_2_0, ZB_2_1⟩ := b2 ZB.out
    have lZB_2 := ZB.out.lt
    have nZB_2 : x2.heap.size ≠ w.heap.size + 1 := by omega
    have mZB_2 : w.heap.size + 1 ≠ x2.heap.size := by omega
    obtain ⟨GB_2_0, GB_2_1⟩ := b2 GB.out
    have lGB_2 := GB.out.lt
    have nGB_2 : x2.heap.size ≠ x1.heap.size := by omega
    have mGB_2 : x1.heap.size ≠ x2.heap.size := by omega
    obtain ⟨rb, hrb⟩ : ∃ z, w.heap.size + 1 = z := ⟨_, rfl⟩
    rw [hrb] at ZB hne9
    try rw [hrb]
    have HNrb := ZB
    have hrl := ZB.out.lt
    have hge : w.heap.size ≤ rb := by omega
    clear hrb
    have HS : Hid (∀ y, Below x2.heap.size x2 y → y.cell? ⟨x1.heap.size, 0, none⟩ = some (.int .i64 yo) ∧ y.cell? ⟨x1.heap.size, 1, none⟩ = some (.int .i64 yh)) := Lib.hid fun y hy => ⟨(hy.cell (p := ⟨x1.heap.size, 0, none⟩) lGB_2).trans GB_2_0, (hy.cell (p := ⟨x1.heap.size, 1, none⟩) lGB_2).trans GB_2_1⟩
    refine wp_region_held_drew (S := (fun w' => w'.cell? ⟨x1.heap.size, 0, none⟩ = some (.int .i64 yo) ∧ w'.cell? ⟨x1.heap.size, 1, none⟩ = some (.int .i64 yh))) (by kernel_rfl) (HS.out _ (Below.refl _ _).drew) (fun hHeld => ?_)
    have hT0 : Below x2.heap.size x2 x2.drew := (Below.refl _ _).drew
    replace HNrb := Lib.hid (HNrb.out.below (Below.refl x2.heap.size x2).drew)
    generalize hdr : x2.drew = y0 at *
    clear hdr
    refine tkH 0 ⟨some 15, _, _, _, _, _⟩ ?_ rfl ?_ (by assumption) ?_
    rotate_left
    · (intro w hSw; (try dsimp only at hSw); go_simp; all_goals with_reducible rfl)
    try simp only [Act.put, sA, sB, sC]
    refine tkH 1 ⟨some 16, _, _, _, _, _⟩ ?_ rfl ?_ (by assumption) ?_
    rotate_left
    · (intro w hSw; (try dsimp only at hSw); go_simp; all_goals with_reducible rfl)
    try simp only [Act.put, sA, sB, sC]
    refine tkH 2 ⟨some 17, _, _, _, _, _⟩ ?_ rfl ?_ (by assumption) ?_
    rotate_left
    · (intro w hSw; (try dsimp only at hSw); go_simp; all_goals with_reducible rfl)
    try simp only [Act.put, sA, sB, sC]
    refine tkH 3 ⟨some 18, _, _, _, _, _⟩ ?_ rfl ?_ (by assumption) ?_
    rotate_left
    · (intro w hSw; (try dsimp only at hSw); go_simp; all_goals with_reducible rfl)
    try simp only [Act.put, sA, sB, sC]
    refine tkH 4 ⟨some 19, _, _, _, _, _⟩ ?_ rfl ?_ (by assumption) ?_
    rotate_left
    · (intro w hSw; (try dsimp only at hSw); go_simp; (try simp only [e1, e2]); all_goals with_reducible rfl)
    try simp only [Act.put, sA, sB, sC]
    refine tkH 5 ⟨some 20, _, _, _, _, _⟩ ?_ rfl ?_ (by assumption) ?_
    rotate_left
    · (intro w hSw; (try dsimp only at hSw); go_simp; all_goals with_reducible rfl)
    try simp only [Act.put, sA, sB, sC]
    refine tkH 7 ⟨some 22, _, _, _, _, _⟩ ?_ rfl ?_ (by assumption) ?_
    rotate_left
    · (intro w hSw; (try dsimp only at hSw); go_simp; all_goals with_reducible rfl)
    try simp only [Act.put, sA, sB, sC]
    refine tkH 8 ⟨some 23, _, _, _, _, _⟩ ?_ rfl ?_ (by assumption) ?_
    rotate_left
    · (intro w hSw; (try dsimp only at hSw); go_simp; all_goals with_reducible rfl)
    try simp only [Act.put, sA, sB, sC]
    refine tkH 9 ⟨some 24, _, _, _, _, _⟩ ?_ rfl ?_ (by assumption) ?_
    rotate_left
    · (intro w hSw; (try dsimp only at hSw); go_simp; all_goals with_reducible rfl)
    try simp only [Act.put, sA, sB, sC]
    refine tkH 10 ⟨some 25, _, _, _, _, _⟩ ?_ rfl ?_ (by assumption) ?_
    rotate_left
    · (intro w hSw; (try dsimp only at hSw); go_simp; all_goals with_reducible rfl)
    try simp only [Act.put, sA, sB, sC]
    refine tkH 11 ⟨some 26, _, _, _, _, _⟩ ?_ rfl ?_ (by assumption) ?_
    rotate_left
    · (intro w hSw; (try dsimp only at hSw); go_simp; (try simp only [e1, e2]); all_goals with_reducible rfl)
    try simp only [Act.put, sA, sB, sC]
    refine tkH 12 ⟨some 27, _, _, _, _, _⟩ ?_ rfl ?_ (by assumption) ?_
    rotate_left
    · (intro w hSw; (try dsimp only at hSw); go_simp; all_goals with_reducible rfl)
    try simp only [Act.put, sA, sB, sC]
    refine wpAnyH_ready (rs := [6]) (by kernel_rfl) (by simp) ?_
    refine AllReadyH.cons rfl (fun K hK => ?_) (AllReadyH.nil)
    go_simp
    refine (floorB pl 1000 ol _ l0 (by omega) (by omega) (by omega) hfl).mono ?_
    rintro e y1 ⟨rfl, hby0⟩
    have hT1 : Below x2.heap.size x2 y1 := hT0.trans (hby0.mono hT0.size)
    replace HNrb := Lib.hid (HNrb.out.below hby0)
    clear hby0
    go_wp2_with fail
    refine hK.out _ _ (HS.out _ hT1) (fun hHeld => ?_)
    clear hK K
    try simp only [Act.put, sA, sB, sC]
    refine wpAnyH_ready (rs := [13]) (by kernel_rfl) (by simp) ?_
    refine AllReadyH.cons rfl (fun K hK => ?_) (AllReadyH.nil)
    go_simp
    refine (ceilB ph 1000 uh _ (by omega) (by omega) (by omega) (by omega) huh).mono ?_
    rintro e y2 ⟨rfl, hby1⟩
    have hT2 : Below x2.heap.size x2 y2 := hT1.trans (hby1.mono hT1.size)
    replace HNrb := Lib.hid (HNrb.out.below hby1)
    clear hby1
    go_wp2_with fail
    refine hK.out _ _ (HS.out _ hT2) (fun hHeld => ?_)
    clear hK K
    try simp only [Act.put, sA, sB, sC]
    refine tkH 14 ⟨some 29, _, _, _, _, _⟩ ?_ rfl ?_ (by assumption) ?_
    rotate_left
    · (intro w hSw; (try dsimp only at hSw); go_simp; all_goals with_reducible rfl)
    try simp only [Act.put, sA, sB, sC]
    refine wpAnyH_ready (rs := [15]) (by kernel_rfl) (by simp) ?_
    refine AllReadyH.cons rfl (fun K hK => ?_) (AllReadyH.nil)
    have HBs := Lib.hid (BlkF.st (vs' := [.int .i64 ol, .int .i64 uh]) HNrb.out rfl)
    have hTs := Lib.hid (stW_below (N := w.heap.size) (w := w) HNrb.out.ge [.int .i64 ol, .int .i64 uh] y2 0 (hB2.trans (hT2.mono hB2.size)))
    have hSs : ((y2.setCell ⟨rb, 0, none⟩ (.int .i64 ol)).setCell ⟨rb, 1, none⟩ (.int .i64 uh)).cell? ⟨x1.heap.size, 0, none⟩ = some (.int .i64 yo) ∧ ((y2.setCell ⟨rb, 0, none⟩ (.int .i64 ol)).setCell ⟨rb, 1, none⟩ (.int .i64 uh)).cell? ⟨x1.heap.size, 1, none⟩ = some (.int .i64 yh) := by
      obtain ⟨h0, h1⟩ := hHeld
      exact ⟨(stW_oc (l := [.int .i64 ol, .int .i64 uh]) (i := 0) (show x1.heap.size ≠ rb by omega) (0)).trans h0, (stW_oc (l := [.int .i64 ol, .int .i64 uh]) (i := 0) (show x1.heap.size ≠ rb by omega) (1)).trans h1⟩
    obtain ⟨k0, k1⟩ := b2 HNrb.out
    have kf := HNrb.out.fz
    go_simp
    go_wp2_with fail
    refine hK.out _ _ hSs (fun hHeld => ?_)
    clear hK K kf hSs k0 k1
    try simp only [Act.put, sA, sB, sC]
    refine wpAnyH_done (by kernel_rfl) ?_ _
    refine ex_world (fun vz => BlkF vz w.heap.size rb [.int .i64 ol, .int .i64 uh] ∧ Below w.heap.size w vz) ⟨HBs.out, hTs.out⟩ (fun vz hvz => ?_)
    obtain ⟨HBz, hTz⟩ := hvz
    clear hHeld HS HBs hTs 
    obtain ⟨r0, r1⟩ := b2 HBz
    have hTz2 := Lib.hid hTz
    clear HBz hTz
    go_wp2
    refine bodyPost_ret (v := .agg #[.int .i64 ol, .int .i64 uh]) (by simp [results, Try.results27, go_sem, *]) rfl ⟨by rw [hR.out], hTz2.out⟩
end Go.Proofs.Ytijdphlejokijaa
