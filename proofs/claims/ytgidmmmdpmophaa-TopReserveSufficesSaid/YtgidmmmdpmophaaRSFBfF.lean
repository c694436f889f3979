import Derived.Test.YtgidmmmdpmophaaRSFBfE
import Derived.Test.YtgidmmmdpmophaaRSFBfC
import Derived.Test.YtgidmmmdpmophaaRSFBfM
import Derived.Outline
namespace Go.Proofs.Ytgidmmmdpmophaa
open Go.ChangeShapes Go.WideShapes Go.ChangeAt Go.RowKit
set_option linter.unusedVariables false
set_option linter.unusedSimpArgs false
attribute [local go_sem ↓] Go.wp_at_zero Go.wp_at_succ
set_option maxHeartbeats 1000000 in
theorem DepthAt_ok (nm : ByteArray) (s : Int) (G : List Ga) (D : List Le) (A B : Option Addr) (gn gc dn dc : Nat) (N : Nat) (kk : Nat) (t xa ya xb yb num den lo hi : Int) (w : World) (hz : nm.size ≤ 9223372036854775807) (hgn : Hid (gn = G.length)) (hgl : gn ≤ 9223372036854775807) (hdn : Hid (dn = D.length)) (hdl : dn ≤ 9223372036854775807) (hG : Hid (SlRows gaV 2 w A G)) (hD : Hid (SlRows leV 3 w B D)) (hE0 : Hid (plnP nm s G D = (N, 0))) (hok : Hid (PlnOk nm s G D)) (ht0 : 0 ≤ t) (ht1 : t ≤ secT D dn) (hk : kk < dn) (hk2 : Hid (∀ j, j < kk → secT D (j + 1) < t)) (hk3 : Hid (t ≤ secT D (kk + 1))) (hxa : Hid (((ptL D (dn + 1)).getD kk default).s = xa)) (hya : Hid (((ptL D (dn + 1)).getD kk default).d = ya)) (hxb : Hid (((ptL D (dn + 1)).getD (kk + 1) default).s = xb)) (hyb : Hid (((ptL D (dn + 1)).getD (kk + 1) default).d = yb)) (a0 : 0 ≤ xa) (a1 : xa ≤ t) (a2 : t ≤ xb) (a3 : xb ≤ 1000000) (ax : xa < xb) (e0 : 0 ≤ ya) (e1 : ya ≤ 30000) (f0 : 0 ≤ yb) (f1 : yb ≤ 30000) (hnum : Hid (ya * (xb - t) + yb * (t - xa) = num)) (hden : Hid (xb - xa = den)) (hlo : Hid (num / den = lo)) (hhi : Hid (upE num den = hi)) (hn0 : 0 ≤ num) (hn1 : num ≤ 60000000000) : Calls Try.prog 14 #[.agg #[.string nm, .int .i64 s, .slice A gn gc, .slice B dn dc], .int .i64 t] w fun e w' => e = .returned (.tuple #[.agg #[.int .i64 lo, .int .i64 hi], .int .i64 0]) ∧ Below w.heap.size w w' := by
  have g8 : gn ≤ 8 := by have := hok.out.g8; have := hgn.out; omega
  have d60 : dn ≤ 60 := by have := hok.out.d6; have := hdn.out; omega
  have hdb : 1 ≤ den ∧ den ≤ 1000000 := by have := hden.out; omega
  go_enter Try.func14, Try.ntmps14
  go_wp2_with fail
  refine (pointsTo_ok nm s G D A B gn gc dn dc N t _ hz hgn hgl hdn hdl (Lib.hid (hG.out.below (by (repeat (first | (with_reducible refine Below.drew ?_) | (with_reducible refine below_drewN ?_ _) | (with_reducible refine Below.alloc ?_ (by first | omega | (simp; done) | (simp; omega) | (simp at *; omega)) _) | (with_reducible refine Below.setCell ?_ (by first | omega | (simp; done) | (simp; omega) | (simp at *; omega)) _) | (with_reducible exact Below.refl _ _) | (with_reducible assumption) | (with_reducible refine Below.trans ?_ (Below.mono (by assumption) (by first | omega | (simp; done) | (simp; omega) | (simp at *; omega))))))))) (Lib.hid (hD.out.below (by (repeat (first | (with_reducible refine Below.drew ?_) | (with_reducible refine below_drewN ?_ _) | (with_reducible refine Below.alloc ?_ (by first | omega | (simp; done) | (simp; omega) | (simp at *; omega)) _) | (with_reducible refine Below.setCell ?_ (by first | omega | (simp; done) | (simp; omega) | (simp at *; omega)) _) | (with_reducible exact Below.refl _ _) | (with_reducible assumption) | (with_reducible refine Below.trans ?_ (Below.mono (by assumption) (by first | omega | (simp; done) | (simp; omega) | (simp at *; omega))))))))) hE0 hok ht0 ht1).mono ?_
  rintro e x1 ⟨pb, po, pc, rfl, hsp, hcp, hpb, hb1⟩
  have hc1 : Below w.heap.size w x1 := (((Below.refl _ _).alloc (by first | exact Nat.le_refl _ | (simp; done) | (simp; omega)) _).alloc (by first | exact Nat.le_refl _ | (simp; done) | (simp; omega)) _).trans (hb1.mono (by first | exact Nat.le_refl _ | (simp; done) | (simp; omega)))
  have hB1 : Below w.heap.size w x1 := hc1
  have zu1 := hB1.size
  have PB : Hid (BlkF x1 w.heap.size (w.heap.size) [.string nm, .int .i64 s, .slice A gn gc, .slice B dn dc]) := Lib.hid (((BlkF.made (B := w.heap.size) w [.string nm, .int .i64 s, .slice A gn gc, .slice B dn dc] 25 (by first | exact Nat.le_refl _ | (simp; done) | (simp; omega))).below ((Below.refl _ _).alloc (Nat.le_refl _) _)).below hb1)
  have zPB1 := PB.out.lt
  have ZB : Hid (BlkF x1 w.heap.size (w.heap.size + 1) [.int .i64 0, .int .i64 0]) := Lib.hid (by have := (BlkF.made (B := w.heap.size) (w.alloc (.cells #[.string nm, .int .i64 s, .slice A gn gc, .slice B dn dc] 25)) [.int .i64 0, .int .i64 0] 46 (by first | exact Nat.le_refl _ | (simp; done) | (simp; omega))).below hb1; simpa using this)
  have zZB1 := ZB.out.lt
  have HP := Lib.hid hsp
  clear hsp
  clear hb1
  obtain ⟨PB_1_0, PB_1_1, PB_1_2, PB_1_3⟩ := b4 PB.out
  have lPB_1 := PB.out.lt
  have nPB_1 : x1.heap.size ≠ w.heap.size := by omega
  have mPB_1 : w.heap.size ≠ x1.heap.size := by omega
  obtain ⟨ZB_1_0, ZB_1_1⟩ := b2 ZB.out
  have lZB_1 := ZB.out.lt
  have nZB_1 : x1.heap.size ≠ w.heap.size + 1 := by omega
  have mZB_1 : w.heap.size + 1 ≠ x1.heap.size := by omega
  have hpl : pb < x1.heap.size := by rcases HP.out with h | ⟨b, o, e, hl, _⟩; (have := congrArg List.length h; rw [ptL_len] at this; simp at this); (cases e; exact hl)
  go_wp2_with fail
  refine (depthOn_is D pb po dn pc kk t xa ya xb yb num den _ (by omega) hpl (Lib.hid (HP.out.below (by (repeat (first | (with_reducible refine Below.drew ?_) | (with_reducible refine below_drewN ?_ _) | (with_reducible refine Below.alloc ?_ (by first | omega | (simp; done) | (simp; omega) | (simp at *; omega)) _) | (with_reducible refine Below.setCell ?_ (by first | omega | (simp; done) | (simp; omega) | (simp at *; omega)) _) | (with_reducible exact Below.refl _ _) | (with_reducible assumption) | (with_reducible refine Below.trans ?_ (Below.mono (by assumption) (by first | omega | (simp; done) | (simp; omega) | (simp at *; omega))))))))) hcp hk hk2 hk3 hxa hya hxb hyb a0 a1 a2 a3 e0 e1 f0 f1 hnum hden).mono ?_
  rintro e x2 ⟨rfl, hb2⟩
  have hc2 : Below x1.heap.size x1 x2 := hb2
  have hB2 : Below w.heap.size w x2 := hB1.trans (hc2.mono hB1.size)
  have zu2 := hB2.size
  replace HP := Lib.hid (HP.out.below hc2)
  replace PB := Lib.hid (PB.out.below hc2)
  replace ZB := Lib.hid (ZB.out.below hc2)
  clear PB_1_0 PB_1_1 PB_1_2 PB_1_3 lPB_1 nPB_1 mPB_1 ZB_1_0 ZB_1_1 lZB_1 nZB_1 mZB_1
  clear hb2 hB1 zu1 hc1
  obtain ⟨PB_2_0, PB_2_1, PB_2_2, PB_2_3⟩ := b4 PB.out
  have lPB_2 := PB.out.lt
  have nPB_2 : x2.heap.size ≠ w.heap.size := by omega
  have mPB_2 : w.heap.size ≠ x2.heap.size := by omega
  obtain ⟨ZB_2_0, ZB_2_1⟩ := b2 ZB.out
  have lZB_2 := ZB.out.lt
  have nZB_2 : x2.heap.size ≠ w.heap.size + 1 := by omega
  have mZB_2 : w.heap.size + 1 ≠ x2.heap.size := by omega
  go_wp2_with fail
  refine (ratRound_is num den lo hi _ hn0 (by omega) hdb.1 (by omega) hlo hhi).mono ?_
  rintro e x3 ⟨rfl, hb3⟩
  have hc3 : Below x2.heap.size x2 x3 := hb3
  have hB3 : Below w.heap.size w x3 := hB2.trans (hc3.mono hB2.size)
  have zu3 := hB3.size
  replace HP := Lib.hid (HP.out.below hc3)
  replace PB := Lib.hid (PB.out.below hc3)
  replace ZB := Lib.hid (ZB.out.below hc3)
  clear PB_2_0 PB_2_1 PB_2_2 PB_2_3 lPB_2 nPB_2 mPB_2 ZB_2_0 ZB_2_1 lZB_2 nZB_2 mZB_2
  clear hb3 hB2 zu2 hc2
  obtain ⟨PB_3_0, PB_3_1, PB_3_2, PB_3_3⟩ := b4 PB.out
  have lPB_3 := PB.out.lt
  have nPB_3 : x3.heap.size ≠ w.heap.size := by omega
  have mPB_3 : w.heap.size ≠ x3.heap.size := by omega
  obtain ⟨ZB_3_0, ZB_3_1⟩ := b2 ZB.out
  have lZB_3 := ZB.out.lt
  have nZB_3 : x3.heap.size ≠ w.heap.size + 1 := by omega
  have mZB_3 : w.heap.size + 1 ≠ x3.heap.size := by omega
  have zf := ZB.out.fz
  go_wp2
  refine bodyPost_ret (v := .tuple #[.agg #[.int .i64 lo, .int .i64 hi], .int .i64 0]) (by simp [results, Try.results14, go_sem, *]) rfl ⟨rfl, ?_⟩
  exact (hB3.setCell (p := ⟨w.heap.size + 1, 0, none⟩) (by simp) _).setCell (p := ⟨w.heap.size + 1, 1, none⟩) (by simp) _
set_option maxHeartbeats 1000000 in
theorem GasAt_ok (nm : ByteArray) (s : Int) (G : List Ga) (D : List Le) (A B : Option Addr) (gn gc dn dc : Nat) (N : Nat) (kk gk : Nat) (t : Int) (w : World) (hz : nm.size ≤ 9223372036854775807) (hgn : Hid (gn = G.length)) (hgl : gn ≤ 9223372036854775807) (hdn : Hid (dn = D.length)) (hdl : dn ≤ 9223372036854775807) (hG : Hid (SlRows gaV 2 w A G)) (hD : Hid (SlRows leV 3 w B D)) (hE0 : Hid (plnP nm s G D = (N, 0))) (hok : Hid (PlnOk nm s G D)) (ht0 : 0 ≤ t) (ht1 : t ≤ secT D dn) (hk : kk < dn) (hk2 : Hid (∀ j, j < kk → secT D (j + 1) < t)) (hk3 : Hid (t ≤ secT D (kk + 1))) (hg : Hid ((D[kk]'(by have := hdn.out; omega)).g = (gk : Int))) : Calls Try.prog 13 #[.agg #[.string nm, .int .i64 s, .slice A gn gc, .slice B dn dc], .int .i64 t] w fun e w' => e = .returned (.tuple #[.int .i64 (gk : Int), .int .i64 0]) ∧ Below w.heap.size w w' := by
  have d60 : dn ≤ 60 := by have := hok.out.d6; have := hdn.out; omega
  have hkD : kk < D.length := by have := hdn.out; omega
  obtain ⟨lb, lo, rfl, hll, hR⟩ := hD.out.at' hkD
  have f2 := (le_at hR hkD).2.2
  rw [hg.out] at f2
  clear hR
  have hd1 : ¬ (dn : Int) = 0 := by omega
  have hd2 : ((dn : Int) == 0) = false := by simpa using hd1
  have hd3 : (dn == 0) = false := by simp; omega
  have q0 : ¬ (kk : Int) < 0 := by omega
  have q1 : (kk : Int) < (dn : Int) := by omega
  go_enter Try.func13, Try.ntmps13
  go_wp2_with fail
  refine (pointsTo_ok nm s G D A (some ⟨lb, lo, none⟩) gn gc dn dc N t _ hz hgn hgl hdn hdl (Lib.hid (hG.out.below (by (repeat (first | (with_reducible refine Below.drew ?_) | (with_reducible refine below_drewN ?_ _) | (with_reducible refine Below.alloc ?_ (by first | omega | (simp; done) | (simp; omega) | (simp at *; omega)) _) | (with_reducible refine Below.setCell ?_ (by first | omega | (simp; done) | (simp; omega) | (simp at *; omega)) _) | (with_reducible exact Below.refl _ _) | (with_reducible assumption) | (with_reducible refine Below.trans ?_ (Below.mono (by assumption) (by first | omega | (simp; done) | (simp; omega) | (simp at *; omega))))))))) (Lib.hid (hD.out.below (by (repeat (first | (with_reducible refine Below.drew ?_) | (with_reducible refine below_drewN ?_ _) | (with_reducible refine Below.alloc ?_ (by first | omega | (simp; done) | (simp; omega) | (simp at *; omega)) _) | (with_reducible refine Below.setCell ?_ (by first | omega | (simp; done) | (simp; omega) | (simp at *; omega)) _) | (with_reducible exact Below.refl _ _) | (with_reducible assumption) | (with_reducible refine Below.trans ?_ (Below.mono (by assumption) (by first | omega | (simp; done) | (simp; omega) | (simp at *; omega))))))))) hE0 hok ht0 ht1).mono ?_
  rintro e x1 ⟨pb, po, pc, rfl, hsp, hcp, hpb, hb1⟩
  have hc1 : Below w.heap.size w x1 := ((Below.refl _ _).alloc (by first | exact Nat.le_refl _ | (simp; done) | (simp; omega)) _).trans (hb1.mono (by first | exact Nat.le_refl _ | (simp; done) | (simp; omega)))
  have hB1 : Below w.heap.size w x1 := hc1
  have zu1 := hB1.size
  have PB : Hid (BlkF x1 w.heap.size (w.heap.size) [.string nm, .int .i64 s, .slice A gn gc, .slice (some ⟨lb, lo, none⟩) dn dc]) := Lib.hid ((BlkF.made (B := w.heap.size) w [.string nm, .int .i64 s, .slice A gn gc, .slice (some ⟨lb, lo, none⟩) dn dc] 25 (by first | exact Nat.le_refl _ | (simp; done) | (simp; omega))).below hb1)
  have zPB1 := PB.out.lt
  have HP := Lib.hid hsp
  clear hsp
  clear hb1
  obtain ⟨PB_1_0, PB_1_1, PB_1_2, PB_1_3⟩ := b4 PB.out
  have lPB_1 := PB.out.lt
  have nPB_1 : x1.heap.size ≠ w.heap.size := by omega
  have mPB_1 : w.heap.size ≠ x1.heap.size := by omega
  have f2' := (hB1.cell (p := ⟨lb, lo + kk * 3 + 2, none⟩) hll).trans f2
  have hll2 : lb < x1.heap.size := by omega
  go_upto_region 6 with (fail)
  have HS : Hid (∀ y, Below x1.heap.size x1 y → y.cell? ⟨w.heap.size, 0, none⟩ = some (.string nm) ∧ y.cell? ⟨w.heap.size, 1, none⟩ = some (.int .i64 s) ∧ y.cell? ⟨w.heap.size, 2, none⟩ = some (.slice A gn gc) ∧ y.cell? ⟨w.heap.size, 3, none⟩ = some (.slice (some ⟨lb, lo, none⟩) dn dc) ∧ y.cell? ⟨lb, lo + kk * 3 + 2, none⟩ = some (.int .i64 (gk : Int))) := Lib.hid fun y hy => ⟨(hy.cell (p := ⟨w.heap.size, 0, none⟩) lPB_1).trans PB_1_0, (hy.cell (p := ⟨w.heap.size, 1, none⟩) lPB_1).trans PB_1_1, (hy.cell (p := ⟨w.heap.size, 2, none⟩) lPB_1).trans PB_1_2, (hy.cell (p := ⟨w.heap.size, 3, none⟩) lPB_1).trans PB_1_3, (hy.cell (p := ⟨lb, lo + kk * 3 + 2, none⟩) hll2).trans f2'⟩
  refine wp_region_held_drew (S := (fun w' => w'.cell? ⟨w.heap.size, 0, none⟩ = some (.string nm) ∧ w'.cell? ⟨w.heap.size, 1, none⟩ = some (.int .i64 s) ∧ w'.cell? ⟨w.heap.size, 2, none⟩ = some (.slice A gn gc) ∧ w'.cell? ⟨w.heap.size, 3, none⟩ = some (.slice (some ⟨lb, lo, none⟩) dn dc) ∧ w'.cell? ⟨lb, lo + kk * 3 + 2, none⟩ = some (.int .i64 (gk : Int)))) (by kernel_rfl) (HS.out _ (Below.refl _ _).drew) (fun hHeld => ?_)
  have hT0 : Below x1.heap.size x1 x1.drew := (Below.refl _ _).drew
  generalize hdr : x1.drew = y1v0 at *
  clear hdr
  refine tkH 0 ⟨some 21, _, _, _, _, _⟩ ?_ rfl ?_ (by assumption) ?_
  rotate_left
  · (intro w hSw; (try dsimp only at hSw); go_simp; all_goals with_reducible rfl)
  try simp only [Act.put, sA, sB, sC]
  refine tkH 1 ⟨some 22, _, _, _, _, _⟩ ?_ rfl ?_ (by assumption) ?_
  rotate_left
  · (intro w hSw; (try dsimp only at hSw); go_simp; all_goals with_reducible rfl)
  try simp only [Act.put, sA, sB, sC]
  refine tkH 2 ⟨some 23, _, _, _, _, _⟩ ?_ rfl ?_ (by assumption) ?_
  rotate_left
  · (intro w hSw; (try dsimp only at hSw); go_simp; all_goals with_reducible rfl)
  try simp only [Act.put, sA, sB, sC]
  refine tkH 3 ⟨some 24, _, _, _, _, _⟩ ?_ rfl ?_ (by assumption) ?_
  rotate_left
  · (intro w hSw; (try dsimp only at hSw); go_simp; all_goals with_reducible rfl)
  try simp only [Act.put, sA, sB, sC]
  refine wpAnyH_ready (rs := [4]) (by kernel_rfl) (by simp) ?_
  refine AllReadyH.cons rfl (fun K hK => ?_) (AllReadyH.nil)
  go_simp
  refine (legAt_is D pb po dn pc kk t _ (by omega) (Lib.hid (HP.out.below hT0)) hcp hk hk2 hk3).mono ?_
  rintro e y1v1 ⟨rfl, hby1v0⟩
  have hT1 : Below x1.heap.size x1 y1v1 := hT0.trans (hby1v0.mono hT0.size)
  clear hby1v0
  go_wp2_with fail
  refine hK.out _ _ (HS.out _ hT1) (fun hHeld => ?_)
  clear hK K
  try simp only [Act.put, sA, sB, sC]
  refine tkH 5 ⟨some 26, _, _, _, _, _⟩ ?_ rfl ?_ (by assumption) ?_
  rotate_left
  · (intro w hSw; (try dsimp only at hSw); go_simp; all_goals with_reducible rfl)
  try simp only [Act.put, sA, sB, sC]
  refine tkH 6 ⟨some 27, _, _, _, _, _⟩ ?_ rfl ?_ (by assumption) ?_
  rotate_left
  · (intro w hSw; (try dsimp only at hSw); go_simp; all_goals with_reducible rfl)
  try simp only [Act.put, sA, sB, sC]
  refine tkH 7 ⟨some 28, _, _, _, _, _⟩ ?_ rfl ?_ (by assumption) ?_
  rotate_left
  · (intro w hSw; (try dsimp only at hSw); go_simp; all_goals with_reducible rfl)
  try simp only [Act.put, sA, sB, sC]
  refine tkH 8 ⟨some 4, _, _, _, _, _⟩ ?_ rfl ?_ (by assumption) ?_
  rotate_left
  · (intro w hSw; (try dsimp only at hSw); go_simp; all_goals with_reducible rfl)
  try simp only [Act.put, sA, sB, sC]
  refine tkH 9 ⟨some 5, _, _, _, _, _⟩ ?_ rfl ?_ (by assumption) ?_
  rotate_left
  · (intro w hSw; (try dsimp only at hSw); go_simp; all_goals with_reducible rfl)
  try simp only [Act.put, sA, sB, sC]
  refine wpAnyH_done (by kernel_rfl) ?_ _
  have hc2 : Below x1.heap.size x1 y1v1 := hT1
  have hB2 : Below w.heap.size w y1v1 := hB1.trans (hc2.mono hB1.size)
  have zu2 := hB2.size
  replace HP := Lib.hid (HP.out.below hc2)
  replace PB := Lib.hid (PB.out.below hc2)
  clear PB_1_0 PB_1_1 PB_1_2 PB_1_3 lPB_1 nPB_1 mPB_1
  clear HS hHeld hT0 hT1 hB1 zu1 hc1
  obtain ⟨PB_2_0, PB_2_1, PB_2_2, PB_2_3⟩ := b4 PB.out
  have lPB_2 := PB.out.lt
  have nPB_2 : y1v1.heap.size ≠ w.heap.size := by omega
  have mPB_2 : w.heap.size ≠ y1v1.heap.size := by omega
  go_wp2
  go_ret2
  exact ⟨rfl, hB2⟩
theorem calls_world {P : Program} {f : FuncId} {args : Array Value} {w : World} {R : Ending → World → Prop} (S : World → Prop) (h : S w) (k : ∀ X, S X → Calls P f args X R) : Calls P f args w R := k w h
theorem sl_otherB {α : Type} {f : α → List Value} {n : Nat} {u : World} {A : Option Addr} {L : List α} {c i : Nat} {l : List Value} (h : SlRows f n u A L) (hc : ∀ ad, A = some ad → ad.block ≠ c) : SlRows f n (stW u c i l) A L := by
  rcases h with h | ⟨b, o, rfl, hl, hR⟩
  · exact Or.inl h
  · exact Or.inr ⟨b, o, rfl, by rw [stW_size]; exact hl, fun k hk j hj => (stW_oc (hc _ rfl) _).trans (hR k hk j hj)⟩
set_option maxHeartbeats 1000000 in
theorem withLegs_is (nm : ByteArray) (s : Int) (G : List Ga) (gb gf gn gc : Nat) (B : Option Addr) (dn dc : Nat) (LA : List Le) (A9 : Option Addr) (na ca d : Nat) (w : World) (hgn : Hid (gn = G.length)) (hgl : gn ≤ 1000) (hG : Hid (SlRows gaV 2 w (some ⟨gb, gf, none⟩) G)) (hLA : Hid (SlRows leV 3 w A9 LA)) (hna : Hid (na = LA.length)) (na1 : na ≤ 1000) (CA : Hid (A9 = none → na = 0 ∧ ca = 0)) (c0 : Hid (w.cell? ⟨d, 0, none⟩ = some (.slice A9 na ca))) (hdl : d < w.heap.size) :
    Calls Try.prog 45 #[.agg #[.string nm, .int .i64 s, .slice (some ⟨gb, gf, none⟩) gn gc, .slice B dn dc], .slice (some ⟨d, 0, none⟩) 1 1] w fun e w' => ∃ G9 cg L9 cl, e = .returned (.agg #[.string nm, .int .i64 s, .slice G9 gn cg, .slice L9 na cl]) ∧ SlRows gaV 2 w' G9 G ∧ SlRows leV 3 w' L9 LA ∧ (∀ ad, G9 = some ad → w.heap.size + 2 ≤ ad.block) ∧ (∀ ad, L9 = some ad → w.heap.size + 2 ≤ ad.block) ∧ Below w.heap.size w w' := by
  go_enter Try.func45, Try.ntmps45
  go_wp2_with fail
  have hb0 : Below w.heap.size w ((w.alloc (.cells #[.string nm, .int .i64 s, .slice (some ⟨gb, gf, none⟩) gn gc, .slice B dn dc] 25)).alloc (.cells #[.string ⟨#[]⟩, .int .i64 0, .slice none 0 0, .slice none 0 0] 25)) := ((Below.refl _ _).alloc (Nat.le_refl _) _).alloc (by simp) _
  refine (cloneGa_is G gb gf gc gn _ hgn (by omega) (hG.out.below hb0)).mono ?_
  rintro e x1 ⟨G9, cg, rfl, hsg, hge, hgn9, hb1⟩
  have PB := ((BlkF.made (B := w.heap.size) w [.string nm, .int .i64 s, .slice (some ⟨gb, gf, none⟩) gn gc, .slice B dn dc] 25 (Nat.le_refl _)).below ((Below.refl _ _).alloc (Nat.le_refl _) (.cells #[.string ⟨#[]⟩, .int .i64 0, .slice none 0 0, .slice none 0 0] 25))).below hb1
  have RB := (BlkF.made (B := w.heap.size) (w.alloc (.cells #[.string nm, .int .i64 s, .slice (some ⟨gb, gf, none⟩) gn gc, .slice B dn dc] 25)) [.string ⟨#[]⟩, .int .i64 0, .slice none 0 0, .slice none 0 0] 25 (by simp)).below hb1
  simp only [World.size_alloc] at RB
  have hB1 := hb0.trans (hb1.mono hb0.size)
  have HSG := Lib.hid hsg
  have HGE : Hid (∀ ad, G9 = some ad → w.heap.size + 2 ≤ ad.block) := Lib.hid fun ad h => by have := hge ad h; simp at this; omega
  clear hb0 hb1 hsg hge hgn9
  obtain ⟨p0, p1, p2, p3⟩ := b4 PB
  have pf := PB.fz
  have lP := PB.lt
  go_wp2_with fail
  refine calls_world (fun X => BlkF X w.heap.size w.heap.size [.string nm, .int .i64 s, .slice G9 gn cg, .slice B dn dc] ∧ BlkF X w.heap.size (w.heap.size + 1) [.string ⟨#[]⟩, .int .i64 0, .slice none 0 0, .slice none 0 0] ∧ SlRows gaV 2 X G9 G ∧ Below w.heap.size w X) ⟨PB.put (i := 2) (.slice G9 gn cg) (by simp), RB.other (c := w.heap.size) (i := 2) (l := [.slice G9 gn cg]) (by omega), sl_otherB (c := w.heap.size) (i := 2) (l := [.slice G9 gn cg]) HSG.out (fun ad h => by have := HGE.out ad h; omega), hB1.setCell (p := ⟨w.heap.size, 2, none⟩) (Nat.le_refl _) _⟩ (fun y hy => ?_)
  clear PB RB p0 p1 p2 p3 pf lP HSG hB1
  obtain ⟨PB, RB, hsg, hBy⟩ := hy
  have hy2 : w.heap.size + 2 ≤ y.heap.size := by have := RB.lt; omega
  refine (concat1_is LA A9 na ca d y hna na1 (Lib.hid fun w' hw => hLA.out.below (hBy.trans (hw.mono hBy.size))) CA ((hBy.cell (p := ⟨d, 0, none⟩) hdl).trans c0.out) (Nat.lt_of_lt_of_le hdl hBy.size)).mono ?_
  rintro e x2 ⟨L9, cl, rfl, hsl, hle, hln, hb2⟩
  replace PB := PB.below hb2
  replace RB := RB.below hb2
  have lY := (PB.lt)
  have HSG := Lib.hid (hsg.below hb2)
  have HSL := Lib.hid hsl
  have hB2 := hBy.trans (hb2.mono hBy.size)
  have hys := hBy.size
  have HLE : Hid (∀ ad, L9 = some ad → y.heap.size ≤ ad.block) := Lib.hid hle
  have HY : Hid (w.heap.size + 2 ≤ y.heap.size) := Lib.hid hy2
  clear hsg hsl hb2 hBy hle hln
  obtain ⟨p0, p1, p2, p3⟩ := b4 PB
  obtain ⟨r0, r1, r2, r3⟩ := b4 RB
  have pf := PB.fz
  have rf := RB.fz
  have lP := PB.lt
  have lR := RB.lt
  go_wp2
  have hF : SlRows gaV 2 (stW (stW x2 w.heap.size 3 [.slice L9 na cl]) (w.heap.size + 1) 0 [.string nm, .int .i64 s, .slice G9 gn cg, .slice L9 na cl]) G9 G := sl_otherB (sl_otherB HSG.out (fun ad h => by have := HGE.out ad h; omega)) (fun ad h => by have := HGE.out ad h; omega)
  have hF2 : SlRows leV 3 (stW (stW x2 w.heap.size 3 [.slice L9 na cl]) (w.heap.size + 1) 0 [.string nm, .int .i64 s, .slice G9 gn cg, .slice L9 na cl]) L9 LA := sl_otherB (sl_otherB HSL.out (fun ad h => by have := HLE.out ad h; have := HY.out; omega)) (fun ad h => by have := HLE.out ad h; have := HY.out; omega)
  have hB5 : Below w.heap.size w (stW (stW x2 w.heap.size 3 [.slice L9 na cl]) (w.heap.size + 1) 0 [.string nm, .int .i64 s, .slice G9 gn cg, .slice L9 na cl]) := stW_below (by omega) _ _ _ (stW_below (Nat.le_refl _) _ _ _ hB2)
  refine bodyPost_ret (v := .agg #[.string nm, .int .i64 s, .slice G9 gn cg, .slice L9 na cl]) (by simp [results, Try.results45, go_sem, *]) rfl ⟨G9, cg, L9, cl, rfl, hF, hF2, HGE.out, (fun ad h => by have := HLE.out ad h; have := HY.out; omega), hB5⟩
end Go.Proofs.Ytgidmmmdpmophaa
