import Derived.Test.YtgidmmmdpmophaaRSFBfD
import Derived.Test.YtgidmmmdpmophaaRSFEFx
import Derived.Outline
namespace Go.Proofs.Ytgidmmmdpmophaa
open Go.ChangeShapes Go.WideShapes Go.ChangeAt Go.RowKit
set_option linter.unusedVariables false
set_option linter.unusedSimpArgs false
attribute [local go_sem ↓] Go.wp_at_zero Go.wp_at_succ
theorem PointsOf_good (nm : ByteArray) (s : Int) (G : List Ga) (D : List Le) (A B : Option Addr) (gn gc dn dc : Nat) (N : Nat) (w : World) (hz : nm.size ≤ 9223372036854775807) (hgn : Hid (gn = G.length)) (hgl : gn ≤ 9223372036854775807) (hdn : Hid (dn = D.length)) (hdl : dn ≤ 9223372036854775807) (hG : Hid (SlRows gaV 2 w A G)) (hD : Hid (SlRows leV 3 w B D)) (hE0 : Hid (plnP nm s G D = (N, 0))) : Calls Try.prog 50 #[.agg #[.string nm, .int .i64 s, .slice A gn gc, .slice B dn dc]] w fun e w' => ∃ pb po pc, e = .returned (.tuple #[.slice (some ⟨pb, po, none⟩) (dn + 1) pc, .int .i64 0]) ∧ SlRows ptV 2 w' (some ⟨pb, po, none⟩) (ptL D (dn + 1)) ∧ dn + 1 ≤ pc ∧ w.heap.size ≤ pb ∧ Below w.heap.size w w' := by
  refine (PointsOf_cap nm s G D A B gn gc dn dc N 0 w hz hgn hgl hdn hdl hG hD hE0).mono ?_
  rintro e w' (⟨h, _⟩ | ⟨_, P, pc, rfl, hP, hge, hcp, hb⟩)
  · exact absurd rfl h
  · obtain ⟨b, o, rfl, _, _⟩ := hP.at' (k := 0) (by rw [ptL_len]; omega)
    exact ⟨b, o, pc, rfl, hP, hcp, hge _ rfl, hb⟩
theorem pWithin_b (n a b : Int) (x : Bool) (w : World) (h : Hid (inB n a b = x)) : Calls Try.prog 55 #[.int .i64 n, .int .i64 a, .int .i64 b] w fun e w' => e = .returned (.bool x) ∧ Below w.heap.size w w' := (pWithin_is n a b x w h).mono fun e w' h => ⟨h.1, by rw [← h.2]; exact Below.refl _ _⟩
theorem pointsTo_ok (nm : ByteArray) (s : Int) (G : List Ga) (D : List Le) (A B : Option Addr) (gn gc dn dc : Nat) (N : Nat) (t : Int) (w : World) (hz : nm.size ≤ 9223372036854775807) (hgn : Hid (gn = G.length)) (hgl : gn ≤ 9223372036854775807) (hdn : Hid (dn = D.length)) (hdl : dn ≤ 9223372036854775807) (hG : Hid (SlRows gaV 2 w A G)) (hD : Hid (SlRows leV 3 w B D)) (hE0 : Hid (plnP nm s G D = (N, 0))) (hok : Hid (PlnOk nm s G D)) (ht0 : 0 ≤ t) (ht1 : t ≤ secT D dn) : Calls Try.prog 33 #[.agg #[.string nm, .int .i64 s, .slice A gn gc, .slice B dn dc], .int .i64 t] w fun e w' => ∃ pb po pc, e = .returned (.tuple #[.slice (some ⟨pb, po, none⟩) (dn + 1) pc, .int .i64 0]) ∧ SlRows ptV 2 w' (some ⟨pb, po, none⟩) (ptL D (dn + 1)) ∧ dn + 1 ≤ pc ∧ w.heap.size ≤ pb ∧ Below w.heap.size w w' := by
  have d60 : dn ≤ 60 := by have := hok.out.d6; have := hdn.out; omega
  go_enter Try.func33, Try.ntmps33
  go_wp2_with fail
  refine (PointsOf_good nm s G D A B gn gc dn dc N _ hz hgn hgl hdn hdl (Lib.hid (hG.out.below (by (repeat (first | (with_reducible refine Below.drew ?_) | (with_reducible refine below_drewN ?_ _) | (with_reducible refine Below.alloc ?_ (by first | omega | (simp; done) | (simp; omega) | (simp at *; omega)) _) | (with_reducible refine Below.setCell ?_ (by first | omega | (simp; done) | (simp; omega) | (simp at *; omega)) _) | (with_reducible exact Below.refl _ _) | (with_reducible assumption) | (with_reducible refine Below.trans ?_ (Below.mono (by assumption) (by first | omega | (simp; done) | (simp; omega) | (simp at *; omega))))))))) (Lib.hid (hD.out.below (by (repeat (first | (with_reducible refine Below.drew ?_) | (with_reducible refine below_drewN ?_ _) | (with_reducible refine Below.alloc ?_ (by first | omega | (simp; done) | (simp; omega) | (simp at *; omega)) _) | (with_reducible refine Below.setCell ?_ (by first | omega | (simp; done) | (simp; omega) | (simp at *; omega)) _) | (with_reducible exact Below.refl _ _) | (with_reducible assumption) | (with_reducible refine Below.trans ?_ (Below.mono (by assumption) (by first | omega | (simp; done) | (simp; omega) | (simp at *; omega))))))))) hE0).mono ?_
  rintro e x1 ⟨pb, po, pc, rfl, hsp, hcp, hpb, hb1⟩
  have hc1 : Below w.heap.size w x1 := ((Below.refl _ _).alloc (by first | exact Nat.le_refl _ | (simp; done) | (simp; omega)) _).trans (hb1.mono (by first | exact Nat.le_refl _ | (simp; done) | (simp; omega)))
  have hB1 : Below w.heap.size w x1 := hc1
  have zu1 := hB1.size
  have PB : Hid (BlkF x1 w.heap.size (w.heap.size) [.string nm, .int .i64 s, .slice A gn gc, .slice B dn dc]) := Lib.hid ((BlkF.made (B := w.heap.size) w [.string nm, .int .i64 s, .slice A gn gc, .slice B dn dc] 25 (by first | exact Nat.le_refl _ | (simp; done) | (simp; omega))).below hb1)
  have zPB1 := PB.out.lt
  have HP := Lib.hid hsp
  clear hsp
  clear hb1
  obtain ⟨PB_1_0, PB_1_1, PB_1_2, PB_1_3⟩ := b4 PB.out
  have lPB_1 := PB.out.lt
  have nPB_1 : x1.heap.size ≠ w.heap.size := by omega
  have mPB_1 : w.heap.size ≠ x1.heap.size := by omega
  go_wp2_with fail
  refine (endOf_b (ptL D (dn + 1)) (some ⟨pb, po, none⟩) dn pc (secT D dn) _ (Lib.hid (ptL_len _ _).symm) (by omega) HP.out (Lib.hid (by rw [ptL_getD (by omega)]; rfl))).mono ?_
  rintro e x2 ⟨rfl, hb2⟩
  have hc2 : Below x1.heap.size x1 x2 := hb2
  have hB2 : Below w.heap.size w x2 := hB1.trans (hc2.mono hB1.size)
  have zu2 := hB2.size
  replace HP := Lib.hid (HP.out.below hc2)
  replace PB := Lib.hid (PB.out.below hc2)
  clear PB_1_0 PB_1_1 PB_1_2 PB_1_3 lPB_1 nPB_1 mPB_1
  clear hb2 hB1 zu1 hc1
  obtain ⟨PB_2_0, PB_2_1, PB_2_2, PB_2_3⟩ := b4 PB.out
  have lPB_2 := PB.out.lt
  have nPB_2 : x2.heap.size ≠ w.heap.size := by omega
  have mPB_2 : w.heap.size ≠ x2.heap.size := by omega
  go_wp2_with fail
  refine (pWithin_b t 0 (secT D dn) true _ (Lib.hid (inB_iff.2 ⟨ht0, ht1⟩))).mono ?_
  rintro e x3 ⟨rfl, hb3⟩
  have hc3 : Below x2.heap.size x2 x3 := hb3
  have hB3 : Below w.heap.size w x3 := hB2.trans (hc3.mono hB2.size)
  have zu3 := hB3.size
  replace HP := Lib.hid (HP.out.below hc3)
  replace PB := Lib.hid (PB.out.below hc3)
  clear PB_2_0 PB_2_1 PB_2_2 PB_2_3 lPB_2 nPB_2 mPB_2
  clear hb3 hB2 zu2 hc2
  obtain ⟨PB_3_0, PB_3_1, PB_3_2, PB_3_3⟩ := b4 PB.out
  have lPB_3 := PB.out.lt
  have nPB_3 : x3.heap.size ≠ w.heap.size := by omega
  have mPB_3 : w.heap.size ≠ x3.heap.size := by omega
  go_wp2
  go_ret2
  exact ⟨pb, po, pc, rfl, HP.out, hcp, by simp at hpb; omega, hB3⟩
theorem between_is (x0 y0 x1 y1 t num den : Int) (w : World) (a0 : 0 ≤ x0) (a1 : x0 ≤ t) (a2 : t ≤ x1) (a3 : x1 ≤ 1000000) (b0 : 0 ≤ y0) (b1 : y0 ≤ 30000) (c0 : 0 ≤ y1) (c1 : y1 ≤ 30000) (hnum : Hid (y0 * (x1 - t) + y1 * (t - x0) = num)) (hden : Hid (x1 - x0 = den)) :
    Calls Try.prog 59 #[.agg #[.int .i64 x0, .int .i64 y0], .agg #[.int .i64 x1, .int .i64 y1], .int .i64 t] w fun e w' => e = .returned (.agg #[.int .i64 num, .int .i64 den]) ∧ Below w.heap.size w w' := by
  obtain ⟨p1, hp1⟩ : ∃ z, Hid (x1 - t = z) := ⟨_, Lib.hid rfl⟩
  obtain ⟨p3, hp3⟩ : ∃ z, Hid (t - x0 = z) := ⟨_, Lib.hid rfl⟩
  obtain ⟨p2, hp2⟩ : ∃ z, Hid (y0 * p1 = z) := ⟨_, Lib.hid rfl⟩
  obtain ⟨p4, hp4⟩ : ∃ z, Hid (y1 * p3 = z) := ⟨_, Lib.hid rfl⟩
  have q1 : 0 ≤ p1 ∧ p1 ≤ 1000000 := by have := hp1.out; omega
  have q3 : 0 ≤ p3 ∧ p3 ≤ 1000000 := by have := hp3.out; omega
  have q2 := mul_bd b0 b1 q1.1 q1.2
  have q4 := mul_bd c0 c1 q3.1 q3.2
  rw [hp2.out] at q2
  rw [hp4.out] at q4
  have w1 : IntKind.i64.wrap (x1 - t) = p1 := by rw [IntWalk.i64_in _ (by omega)]; exact hp1.out
  have w2 : IntKind.i64.wrap (y0 * p1) = p2 := by rw [hp2.out]; exact IntWalk.i64_in _ (by omega)
  have w3 : IntKind.i64.wrap (t - x0) = p3 := by rw [IntWalk.i64_in _ (by omega)]; exact hp3.out
  have w4 : IntKind.i64.wrap (y1 * p3) = p4 := by rw [hp4.out]; exact IntWalk.i64_in _ (by omega)
  have w5 : IntKind.i64.wrap (p2 + p4) = num := by rw [IntWalk.i64_in _ (by omega), ← hnum.out, hp1.out, hp3.out, hp2.out, hp4.out]
  have w6 : IntKind.i64.wrap (x1 - x0) = den := by rw [IntWalk.i64_in _ (by omega)]; exact hden.out
  clear q1 q2 q3 q4
  go_enter Try.func59, Try.ntmps59
  go_wp2
  refine bodyPost_ret (v := .agg #[.int .i64 num, .int .i64 den]) (by simp [results, Try.results59, go_sem, *]) rfl ⟨rfl, ?_⟩
  (repeat (first | (with_reducible refine Below.drew ?_) | (with_reducible refine below_drewN ?_ _) | (with_reducible refine Below.alloc ?_ (by first | omega | (simp; done) | (simp; omega) | (simp at *; omega)) _) | (with_reducible refine Below.setCell ?_ (by first | omega | (simp; done) | (simp; omega) | (simp at *; omega)) _) | (with_reducible exact Below.refl _ _) | (with_reducible assumption) | (with_reducible refine Below.trans ?_ (Below.mono (by assumption) (by first | omega | (simp; done) | (simp; omega) | (simp at *; omega))))))
set_option maxRecDepth 100000 in
theorem ratRound_is (n d lo hi : Int) (w : World) (n0 : 0 ≤ n) (n1 : n ≤ 1000000000000000) (d0 : 1 ≤ d) (d1 : d ≤ 1000000000000000) (hlo : Hid (n / d = lo)) (hhi : Hid (upE n d = hi)) :
    Calls Try.prog 36 #[.agg #[.int .i64 n, .int .i64 d]] w fun e w' => e = .returned (.agg #[.int .i64 lo, .int .i64 hi]) ∧ Below w.heap.size w w' := by
  obtain ⟨m, hm⟩ : ∃ z, Hid (n + d = z) := ⟨_, Lib.hid rfl⟩
  obtain ⟨k, hk⟩ : ∃ z, Hid (m - 1 = z) := ⟨_, Lib.hid rfl⟩
  have k0 : 0 ≤ k := by have := hk.out; have := hm.out; omega
  have w0 : IntKind.i64.wrap (n + d) = m := by rw [IntWalk.i64_in _ (by omega)]; exact hm.out
  have w1 : IntKind.i64.wrap (m - 1) = k := by rw [IntWalk.i64_in _ (by have := hm.out; omega)]; exact hk.out
  have l1 : 0 ≤ n / d ∧ n / d ≤ n := ⟨Int.ediv_nonneg n0 (by omega), Int.ediv_le_self _ n0⟩
  have l2 : 0 ≤ k / d ∧ k / d ≤ k := ⟨Int.ediv_nonneg k0 (by omega), Int.ediv_le_self _ k0⟩
  have w2 : IntKind.i64.wrap (n.tdiv d) = lo := by rw [Int.tdiv_eq_ediv_of_nonneg n0, IntWalk.i64_in _ (by omega)]; exact hlo.out
  have w3 : IntKind.i64.wrap (k.tdiv d) = hi := by rw [Int.tdiv_eq_ediv_of_nonneg k0, IntWalk.i64_in _ (by have := hk.out; have := hm.out; omega), ← hhi.out, ← hk.out, ← hm.out]; rfl
  have z0 : ¬ d = 0 := by omega
  have z1 : (d == 0) = false := by simpa using z0
  clear l1 l2
  go_enter Try.func36, Try.ntmps36
  go_upto_region 1 with (fail)
  refine wp_worldE (fun u => Below w.heap.size w u ∧ BlkF u w.heap.size (w.heap.size) [.int .i64 n, .int .i64 d] ∧ BlkF u w.heap.size (w.heap.size + 1) [.int .i64 0, .int .i64 0]) ⟨((Below.refl _ _).alloc (by first | exact Nat.le_refl _ | (simp; done) | (simp; omega)) _).alloc (by first | exact Nat.le_refl _ | (simp; done) | (simp; omega)) _, (BlkF.made (B := w.heap.size) w [.int .i64 n, .int .i64 d] 82 (by first | exact Nat.le_refl _ | (simp; done) | (simp; omega))).below (Below.alloc (Below.refl _ (w.alloc (.cells #[.int .i64 n, .int .i64 d] 82))) (Nat.le_refl _) (.cells #[.int .i64 0, .int .i64 0] 46)), by have := BlkF.made (B := w.heap.size) (w.alloc (.cells #[.int .i64 n, .int .i64 d] 82)) [.int .i64 0, .int .i64 0] 46 (by first | exact Nat.le_refl _ | (simp; done) | (simp; omega)); simpa using this⟩ (fun x1 hu1 => ?_)
  obtain ⟨hc1, qQB, qZB⟩ := hu1
  have QB := Lib.hid qQB
  clear qQB
  have ZB := Lib.hid qZB
  clear qZB
  have hB1 : Below w.heap.size w x1 := hc1
  have zu1 := hB1.size
  obtain ⟨QB_1_0, QB_1_1⟩ := b2 QB.out
  have lQB_1 := QB.out.lt
  have nQB_1 : x1.heap.size ≠ w.heap.size := by omega
  have mQB_1 : w.heap.size ≠ x1.heap.size := by omega
  obtain ⟨ZB_1_0, ZB_1_1⟩ := b2 ZB.out
  have lZB_1 := ZB.out.lt
  have nZB_1 : x1.heap.size ≠ w.heap.size + 1 := by omega
  have mZB_1 : w.heap.size + 1 ≠ x1.heap.size := by omega
  obtain ⟨rb, hrb⟩ : ∃ z, w.heap.size + 1 = z := ⟨_, rfl⟩
  rw [hrb] at ZB
  try rw [hrb]
  have HNrb := ZB
  have hrl := ZB.out.lt
  have hge : w.heap.size ≤ rb := by omega
  have hrp : rb ≠ w.heap.size := by omega
  clear hrb
  have HS : Hid (∀ y, Below x1.heap.size x1 y → y.cell? ⟨w.heap.size, 0, none⟩ = some (.int .i64 n) ∧ y.cell? ⟨w.heap.size, 1, none⟩ = some (.int .i64 d)) := Lib.hid fun y hy => ⟨(hy.cell (p := ⟨w.heap.size, 0, none⟩) lQB_1).trans QB_1_0, (hy.cell (p := ⟨w.heap.size, 1, none⟩) lQB_1).trans QB_1_1⟩
  refine wp_region_held_drew (S := (fun w' => w'.cell? ⟨w.heap.size, 0, none⟩ = some (.int .i64 n) ∧ w'.cell? ⟨w.heap.size, 1, none⟩ = some (.int .i64 d))) (by kernel_rfl) (HS.out _ (Below.refl _ _).drew) (fun hHeld => ?_)
  have hT0 : Below x1.heap.size x1 x1.drew := (Below.refl _ _).drew
  replace HNrb := Lib.hid (HNrb.out.below (Below.refl x1.heap.size x1).drew)
  generalize hdr : x1.drew = y0 at *
  clear hdr
  refine tkH 0 ⟨some 3, _, _, _, _, _⟩ ?_ rfl ?_ (by assumption) ?_
  rotate_left
  · (intro w hSw; (try dsimp only at hSw); go_simp; all_goals with_reducible rfl)
  try simp only [Act.put, sA, sB, sC]
  refine tkH 1 ⟨some 4, _, _, _, _, _⟩ ?_ rfl ?_ (by assumption) ?_
  rotate_left
  · (intro w hSw; (try dsimp only at hSw); go_simp; all_goals with_reducible rfl)
  try simp only [Act.put, sA, sB, sC]
  refine tkH 2 ⟨some 5, _, _, _, _, _⟩ ?_ rfl ?_ (by assumption) ?_
  rotate_left
  · (intro w hSw; (try dsimp only at hSw); go_simp; all_goals with_reducible rfl)
  try simp only [Act.put, sA, sB, sC]
  refine tkH 3 ⟨some 6, _, _, _, _, _⟩ ?_ rfl ?_ (by assumption) ?_
  rotate_left
  · (intro w hSw; (try dsimp only at hSw); go_simp; all_goals with_reducible rfl)
  try simp only [Act.put, sA, sB, sC]
  refine tkH 4 ⟨some 7, _, _, _, _, _⟩ ?_ rfl ?_ (by assumption) ?_
  rotate_left
  · (intro w hSw; (try dsimp only at hSw); go_simp; all_goals with_reducible rfl)
  try simp only [Act.put, sA, sB, sC]
  refine tkH 5 ⟨some 8, _, _, _, _, _⟩ ?_ rfl ?_ (by assumption) ?_
  rotate_left
  · (intro w hSw; (try dsimp only at hSw); go_simp; all_goals with_reducible rfl)
  try simp only [Act.put, sA, sB, sC]
  refine tkH 6 ⟨some 9, _, _, _, _, _⟩ ?_ rfl ?_ (by assumption) ?_
  rotate_left
  · (intro w hSw; (try dsimp only at hSw); go_simp; all_goals with_reducible rfl)
  try simp only [Act.put, sA, sB, sC]
  refine tkH 7 ⟨some 10, _, _, _, _, _⟩ ?_ rfl ?_ (by assumption) ?_
  rotate_left
  · (intro w hSw; (try dsimp only at hSw); go_simp; all_goals with_reducible rfl)
  try simp only [Act.put, sA, sB, sC]
  refine tkH 8 ⟨some 11, _, _, _, _, _⟩ ?_ rfl ?_ (by assumption) ?_
  rotate_left
  · (intro w hSw; (try dsimp only at hSw); go_simp; all_goals with_reducible rfl)
  try simp only [Act.put, sA, sB, sC]
  refine tkH 9 ⟨some 12, _, _, _, _, _⟩ ?_ rfl ?_ (by assumption) ?_
  rotate_left
  · (intro w hSw; (try dsimp only at hSw); go_simp; all_goals with_reducible rfl)
  try simp only [Act.put, sA, sB, sC]
  refine tkH 10 ⟨some 13, _, _, _, _, _⟩ ?_ rfl ?_ (by assumption) ?_
  rotate_left
  · (intro w hSw; (try dsimp only at hSw); go_simp; all_goals with_reducible rfl)
  try simp only [Act.put, sA, sB, sC]
  refine tkH 11 ⟨some 14, _, _, _, _, _⟩ ?_ rfl ?_ (by assumption) ?_
  rotate_left
  · (intro w hSw; (try dsimp only at hSw); go_simp; all_goals with_reducible rfl)
  try simp only [Act.put, sA, sB, sC]
  refine tkH 12 ⟨some 15, _, _, _, _, _⟩ ?_ rfl ?_ (by assumption) ?_
  rotate_left
  · (intro w hSw; (try dsimp only at hSw); go_simp; all_goals with_reducible rfl)
  try simp only [Act.put, sA, sB, sC]
  refine tkH 13 ⟨some 16, _, _, _, _, _⟩ ?_ rfl ?_ (by assumption) ?_
  rotate_left
  · (intro w hSw; (try dsimp only at hSw); go_simp; all_goals with_reducible rfl)
  try simp only [Act.put, sA, sB, sC]
  refine tkH 14 ⟨some 17, _, _, _, _, _⟩ ?_ rfl ?_ (by assumption) ?_
  rotate_left
  · (intro w hSw; (try dsimp only at hSw); go_simp; all_goals with_reducible rfl)
  try simp only [Act.put, sA, sB, sC]
  refine wpAnyH_ready (rs := [15]) (by kernel_rfl) (by simp) ?_
  refine AllReadyH.cons rfl (fun K hK => ?_) (AllReadyH.nil)
  have HBs := Lib.hid (BlkF.st (vs' := [.int .i64 lo, .int .i64 hi]) HNrb.out rfl)
  have hTs := Lib.hid (stW_below (N := w.heap.size) (w := w) HNrb.out.ge [.int .i64 lo, .int .i64 hi] y0 0 (hB1.trans (hT0.mono hB1.size)))
  have hSs : ((y0.setCell ⟨rb, 0, none⟩ (.int .i64 lo)).setCell ⟨rb, 1, none⟩ (.int .i64 hi)).cell? ⟨w.heap.size, 0, none⟩ = some (.int .i64 n) ∧ ((y0.setCell ⟨rb, 0, none⟩ (.int .i64 lo)).setCell ⟨rb, 1, none⟩ (.int .i64 hi)).cell? ⟨w.heap.size, 1, none⟩ = some (.int .i64 d) := by
    obtain ⟨h0, h1⟩ := hHeld
    exact ⟨(stW_oc (l := [.int .i64 lo, .int .i64 hi]) (i := 0) (show w.heap.size ≠ rb by omega) (0)).trans h0, (stW_oc (l := [.int .i64 lo, .int .i64 hi]) (i := 0) (show w.heap.size ≠ rb by omega) (1)).trans h1⟩
  obtain ⟨k0, k1⟩ := b2 HNrb.out
  have kf := HNrb.out.fz
  go_simp
  go_wp2_with fail
  refine hK.out _ _ hSs (fun hHeld => ?_)
  clear hK K kf hSs k0 k1
  try simp only [Act.put, sA, sB, sC]
  refine wpAnyH_done (by kernel_rfl) ?_ _
  refine ex_world (fun vz => BlkF vz w.heap.size rb [.int .i64 lo, .int .i64 hi] ∧ Below w.heap.size w vz) ⟨HBs.out, hTs.out⟩ (fun vz hvz => ?_)
  obtain ⟨HBz, hTz⟩ := hvz
  clear hHeld HS HBs hTs 
  obtain ⟨r0, r1⟩ := b2 HBz
  have hTz2 := Lib.hid hTz
  clear HBz hTz
  go_wp2
  refine bodyPost_ret (v := .agg #[.int .i64 lo, .int .i64 hi]) (by simp [results, Try.results36, go_sem, *]) rfl ⟨rfl, hTz2.out⟩
theorem ratWhole_is (n d : Int) (r : Bool) (w : World) (n0 : 0 ≤ n) (n1 : n ≤ 1000000000000000) (d0 : 1 ≤ d) (d1 : d ≤ 1000000000000000) (hr : Hid (decide (n % d = 0) = r)) :
    Calls Try.prog 44 #[.agg #[.int .i64 n, .int .i64 d]] w fun e w' => e = .returned (.bool r) ∧ Below w.heap.size w w' := by
  obtain ⟨m, hm⟩ : ∃ z, Hid (n % d = z) := ⟨_, Lib.hid rfl⟩
  have l1 := Int.emod_nonneg n (show d ≠ 0 by omega)
  have l2 := Int.emod_lt_of_pos n (show 0 < d by omega)
  have w2 : IntKind.i64.wrap (n.tmod d) = m := by rw [Int.tmod_eq_emod_of_nonneg n0, IntWalk.i64_in _ (by omega)]; exact hm.out
  have z0 : ¬ d = 0 := by omega
  have z1 : (d == 0) = false := by simpa using z0
  rw [hm.out] at hr
  by_cases h : m = 0
  · obtain rfl : r = true := by rw [← hr.out]; exact decide_eq_true h
    have h1 : (m == 0) = true := by simpa using h
    clear hr l1 l2
    go_enter Try.func44, Try.ntmps44
    go_wp2
    go_ret
    exact ⟨by simp [*]; rw [hm.out]; exact h, (by (repeat (first | (with_reducible refine Below.drew ?_) | (with_reducible refine below_drewN ?_ _) | (with_reducible refine Below.alloc ?_ (by first | omega | (simp; done) | (simp; omega) | (simp at *; omega)) _) | (with_reducible refine Below.setCell ?_ (by first | omega | (simp; done) | (simp; omega) | (simp at *; omega)) _) | (with_reducible exact Below.refl _ _) | (with_reducible assumption) | (with_reducible refine Below.trans ?_ (Below.mono (by assumption) (by first | omega | (simp; done) | (simp; omega) | (simp at *; omega)))))))⟩
  · obtain rfl : r = false := by rw [← hr.out]; exact decide_eq_false h
    have h1 : (m == 0) = false := by simpa using h
    clear hr l1 l2
    go_enter Try.func44, Try.ntmps44
    go_wp2
    go_ret
    exact ⟨by simp [*]; rw [hm.out]; exact h, (by (repeat (first | (with_reducible refine Below.drew ?_) | (with_reducible refine below_drewN ?_ _) | (with_reducible refine Below.alloc ?_ (by first | omega | (simp; done) | (simp; omega) | (simp at *; omega)) _) | (with_reducible refine Below.setCell ?_ (by first | omega | (simp; done) | (simp; omega) | (simp at *; omega)) _) | (with_reducible exact Below.refl _ _) | (with_reducible assumption) | (with_reducible refine Below.trans ?_ (Below.mono (by assumption) (by first | omega | (simp; done) | (simp; omega) | (simp at *; omega)))))))⟩
set_option maxRecDepth 100000 in
set_option maxHeartbeats 1000000 in
theorem depthOn_is (D : List Le) (b o dn cap kk : Nat) (t xa ya xb yb num den : Int) (w : World) (hd : dn ≤ 60) (hbw : b < w.heap.size) (hS : Hid (SlRows ptV 2 w (some ⟨b, o, none⟩) (ptL D (dn + 1)))) (hcap : dn + 1 ≤ cap) (hk : kk < dn) (hk2 : Hid (∀ j, j < kk → secT D (j + 1) < t)) (hk3 : Hid (t ≤ secT D (kk + 1)))
    (hxa : Hid (((ptL D (dn + 1)).getD kk default).s = xa)) (hya : Hid (((ptL D (dn + 1)).getD kk default).d = ya)) (hxb : Hid (((ptL D (dn + 1)).getD (kk + 1) default).s = xb)) (hyb : Hid (((ptL D (dn + 1)).getD (kk + 1) default).d = yb)) (a0 : 0 ≤ xa) (a1 : xa ≤ t) (a2 : t ≤ xb) (a3 : xb ≤ 1000000) (e0 : 0 ≤ ya) (e1 : ya ≤ 30000) (f0 : 0 ≤ yb) (f1 : yb ≤ 30000) (hnum : Hid (ya * (xb - t) + yb * (t - xa) = num)) (hden : Hid (xb - xa = den)) :
    Calls Try.prog 35 #[.slice (some ⟨b, o, none⟩) (dn + 1) cap, .int .i64 t] w fun e w' => e = .returned (.agg #[.int .i64 num, .int .i64 den]) ∧ Below w.heap.size w w' := by
  have q0 : ¬ (kk : Int) < 0 := by omega
  have q1 : (kk : Int) < (dn : Int) + 1 := by omega
  have q2 : (kk : Int) + 1 < (dn : Int) + 1 := by omega
  have q3 : ¬ (kk : Int) + 1 < 0 := by omega
  have q4 : (0 : Int) ≤ (kk : Int) + 1 := by omega
  have wk : IntKind.i64.wrap ((kk : Int) + 1) = (kk : Int) + 1 := IntWalk.i64_in _ (by omega)
  have tk : ((kk : Int) + 1).toNat = kk + 1 := by omega
  go_enter Try.func35, Try.ntmps35
  go_wp2_with fail
  refine (legAt_is D b o dn cap kk t _ (by omega) (Lib.hid (hS.out.below (by (repeat (first | (with_reducible refine Below.drew ?_) | (with_reducible refine below_drewN ?_ _) | (with_reducible refine Below.alloc ?_ (by first | omega | (simp; done) | (simp; omega) | (simp at *; omega)) _) | (with_reducible refine Below.setCell ?_ (by first | omega | (simp; done) | (simp; omega) | (simp at *; omega)) _) | (with_reducible exact Below.refl _ _) | (with_reducible assumption) | (with_reducible refine Below.trans ?_ (Below.mono (by assumption) (by first | omega | (simp; done) | (simp; omega) | (simp at *; omega))))))))) hcap hk hk2 hk3).mono ?_
  rintro e x1 ⟨rfl, hb1⟩
  have hc1 : Below w.heap.size w x1 := ((Below.refl _ _).alloc (by first | exact Nat.le_refl _ | (simp; done) | (simp; omega)) _).trans (hb1.mono (by first | exact Nat.le_refl _ | (simp; done) | (simp; omega)))
  have hB1 : Below w.heap.size w x1 := hc1
  have zu1 := hB1.size
  have ZB : Hid (BlkF x1 w.heap.size (w.heap.size) [.int .i64 0, .int .i64 0]) := Lib.hid ((BlkF.made (B := w.heap.size) w [.int .i64 0, .int .i64 0] 82 (by first | exact Nat.le_refl _ | (simp; done) | (simp; omega))).below hb1)
  have zZB1 := ZB.out.lt
  clear hb1
  obtain ⟨ZB_1_0, ZB_1_1⟩ := b2 ZB.out
  have lZB_1 := ZB.out.lt
  have nZB_1 : x1.heap.size ≠ w.heap.size := by omega
  have mZB_1 : w.heap.size ≠ x1.heap.size := by omega
  go_upto_region 4 with (fail)
  obtain ⟨rb, hrb⟩ : ∃ z, w.heap.size = z := ⟨_, rfl⟩
  have HNrb : Hid (BlkF x1 w.heap.size rb [.int .i64 0, .int .i64 0]) := Lib.hid (by rw [← hrb]; exact ZB.out)
  have hSw := hS.out.below hB1
  have cA := sl_pt hSw (k := kk) (by rw [ptL_len]; omega) hxa.out hya.out
  have cB := sl_pt hSw (k := kk + 1) (by rw [ptL_len]; omega) hxb.out hyb.out
  obtain ⟨k0, k1, kb⟩ := cA
  obtain ⟨k2, k3, _⟩ := cB
  have hbr : b ≠ rb := by omega
  try rw [hrb]
  have hrl := HNrb.out.lt
  have hge : w.heap.size ≤ rb := by omega
  have HS : Hid (∀ y, Below x1.heap.size x1 y → y.cell? ⟨b, o + kk * 2, none⟩ = some (.int .i64 xa) ∧ y.cell? ⟨b, o + kk * 2 + 1, none⟩ = some (.int .i64 ya) ∧ y.cell? ⟨b, o + (kk + 1) * 2, none⟩ = some (.int .i64 xb) ∧ y.cell? ⟨b, o + (kk + 1) * 2 + 1, none⟩ = some (.int .i64 yb)) := Lib.hid fun y hy => ⟨(hy.cell (p := ⟨b, o + kk * 2, none⟩) kb).trans k0, (hy.cell (p := ⟨b, o + kk * 2 + 1, none⟩) kb).trans k1, (hy.cell (p := ⟨b, o + (kk + 1) * 2, none⟩) kb).trans k2, (hy.cell (p := ⟨b, o + (kk + 1) * 2 + 1, none⟩) kb).trans k3⟩
  refine wp_region_held_drew (S := (fun w' => w'.cell? ⟨b, o + kk * 2, none⟩ = some (.int .i64 xa) ∧ w'.cell? ⟨b, o + kk * 2 + 1, none⟩ = some (.int .i64 ya) ∧ w'.cell? ⟨b, o + (kk + 1) * 2, none⟩ = some (.int .i64 xb) ∧ w'.cell? ⟨b, o + (kk + 1) * 2 + 1, none⟩ = some (.int .i64 yb))) (by kernel_rfl) (HS.out _ (Below.refl _ _).drew) (fun hHeld => ?_)
  have hT0 : Below x1.heap.size x1 x1.drew := (Below.refl _ _).drew
  replace HNrb := Lib.hid (HNrb.out.below (Below.refl x1.heap.size x1).drew)
  generalize hdr : x1.drew = y0 at *
  clear hdr
  refine tkH 0 ⟨some 16, _, _, _, _, _⟩ ?_ rfl ?_ (by assumption) ?_
  rotate_left
  · (intro w hSw; (try dsimp only at hSw); go_simp; all_goals with_reducible rfl)
  try simp only [Act.put, sA, sB, sC]
  refine tkH 1 ⟨some 17, _, _, _, _, _⟩ ?_ rfl ?_ (by assumption) ?_
  rotate_left
  · (intro w hSw; (try dsimp only at hSw); go_simp; all_goals with_reducible rfl)
  try simp only [Act.put, sA, sB, sC]
  refine tkH 2 ⟨some 18, _, _, _, _, _⟩ ?_ rfl ?_ (by assumption) ?_
  rotate_left
  · (intro w hSw; (try dsimp only at hSw); go_simp; all_goals with_reducible rfl)
  try simp only [Act.put, sA, sB, sC]
  refine tkH 3 ⟨some 19, _, _, _, _, _⟩ ?_ rfl ?_ (by assumption) ?_
  rotate_left
  · (intro w hSw; (try dsimp only at hSw); go_simp; all_goals with_reducible rfl)
  try simp only [Act.put, sA, sB, sC]
  refine tkH 4 ⟨some 20, _, _, _, _, _⟩ ?_ rfl ?_ (by assumption) ?_
  rotate_left
  · (intro w hSw; (try dsimp only at hSw); go_simp; all_goals with_reducible rfl)
  try simp only [Act.put, sA, sB, sC]
  refine tkH 5 ⟨some 21, _, _, _, _, _⟩ ?_ rfl ?_ (by assumption) ?_
  rotate_left
  · (intro w hSw; (try dsimp only at hSw); go_simp; all_goals with_reducible rfl)
  try simp only [Act.put, sA, sB, sC]
  refine tkH 6 ⟨some 22, _, _, _, _, _⟩ ?_ rfl ?_ (by assumption) ?_
  rotate_left
  · (intro w hSw; (try dsimp only at hSw); go_simp; all_goals with_reducible rfl)
  try simp only [Act.put, sA, sB, sC]
  refine tkH 7 ⟨some 23, _, _, _, _, _⟩ ?_ rfl ?_ (by assumption) ?_
  rotate_left
  · (intro w hSw; (try dsimp only at hSw); go_simp; all_goals with_reducible rfl)
  try simp only [Act.put, sA, sB, sC]
  refine tkH 8 ⟨some 24, _, _, _, _, _⟩ ?_ rfl ?_ (by assumption) ?_
  rotate_left
  · (intro w hSw; (try dsimp only at hSw); go_simp; all_goals with_reducible rfl)
  try simp only [Act.put, sA, sB, sC]
  refine tkH 9 ⟨some 25, _, _, _, _, _⟩ ?_ rfl ?_ (by assumption) ?_
  rotate_left
  · (intro w hSw; (try dsimp only at hSw); go_simp; all_goals with_reducible rfl)
  try simp only [Act.put, sA, sB, sC]
  refine wpAnyH_ready (rs := [10]) (by kernel_rfl) (by simp) ?_
  refine AllReadyH.cons rfl (fun K hK => ?_) (AllReadyH.nil)
  go_simp
  refine (between_is xa ya xb yb t num den _ a0 a1 a2 a3 e0 e1 f0 f1 hnum hden).mono ?_
  rintro e y1 ⟨rfl, hby0⟩
  have hT1 : Below x1.heap.size x1 y1 := hT0.trans (hby0.mono hT0.size)
  replace HNrb := Lib.hid (HNrb.out.below hby0)
  clear hby0
  go_wp2_with fail
  refine hK.out _ _ (HS.out _ hT1) (fun hHeld => ?_)
  clear hK K
  try simp only [Act.put, sA, sB, sC]
  refine wpAnyH_ready (rs := [11]) (by kernel_rfl) (by simp) ?_
  refine AllReadyH.cons rfl (fun K hK => ?_) (AllReadyH.nil)
  have HBs := Lib.hid (BlkF.st (vs' := [.int .i64 num, .int .i64 den]) HNrb.out rfl)
  have hTs := Lib.hid (stW_below (N := w.heap.size) (w := w) HNrb.out.ge [.int .i64 num, .int .i64 den] y1 0 (hB1.trans (hT1.mono hB1.size)))
  have hSs : ((y1.setCell ⟨rb, 0, none⟩ (.int .i64 num)).setCell ⟨rb, 1, none⟩ (.int .i64 den)).cell? ⟨b, o + kk * 2, none⟩ = some (.int .i64 xa) ∧ ((y1.setCell ⟨rb, 0, none⟩ (.int .i64 num)).setCell ⟨rb, 1, none⟩ (.int .i64 den)).cell? ⟨b, o + kk * 2 + 1, none⟩ = some (.int .i64 ya) ∧ ((y1.setCell ⟨rb, 0, none⟩ (.int .i64 num)).setCell ⟨rb, 1, none⟩ (.int .i64 den)).cell? ⟨b, o + (kk + 1) * 2, none⟩ = some (.int .i64 xb) ∧ ((y1.setCell ⟨rb, 0, none⟩ (.int .i64 num)).setCell ⟨rb, 1, none⟩ (.int .i64 den)).cell? ⟨b, o + (kk + 1) * 2 + 1, none⟩ = some (.int .i64 yb) := by
    obtain ⟨h0, h1, h2, h3⟩ := hHeld
    exact ⟨(stW_oc (l := [.int .i64 num, .int .i64 den]) (i := 0) (show b ≠ rb by omega) (o + kk * 2)).trans h0, (stW_oc (l := [.int .i64 num, .int .i64 den]) (i := 0) (show b ≠ rb by omega) (o + kk * 2 + 1)).trans h1, (stW_oc (l := [.int .i64 num, .int .i64 den]) (i := 0) (show b ≠ rb by omega) (o + (kk + 1) * 2)).trans h2, (stW_oc (l := [.int .i64 num, .int .i64 den]) (i := 0) (show b ≠ rb by omega) (o + (kk + 1) * 2 + 1)).trans h3⟩
  obtain ⟨k0, k1⟩ := b2 HNrb.out
  have kf := HNrb.out.fz
  go_simp
  go_wp2_with fail
  refine hK.out _ _ hSs (fun hHeld => ?_)
  clear hK K kf hSs k0 k1
  try simp only [Act.put, sA, sB, sC]
  refine wpAnyH_done (by kernel_rfl) ?_ _
  refine ex_world (fun vz => BlkF vz w.heap.size rb [.int .i64 num, .int .i64 den] ∧ Below w.heap.size w vz) ⟨HBs.out, hTs.out⟩ (fun vz hvz => ?_)
  obtain ⟨HBz, hTz⟩ := hvz
  clear hHeld HS HBs hTs 
  obtain ⟨r0, r1⟩ := b2 HBz
  have hTz2 := Lib.hid hTz
  clear HBz hTz
  go_wp2
  refine bodyPost_ret (v := .agg #[.int .i64 num, .int .i64 den]) (by simp [results, Try.results35, go_sem, *]) rfl ⟨rfl, hTz2.out⟩
end Go.Proofs.Ytgidmmmdpmophaa
