import Derived.Test.YtijdphlejokijaaGreatERSERfP
import Derived.Test.YtijdphlejokijaaGreatERSELeg
import Derived.Outline
namespace Go.Proofs.YtijdphlejokijaaGreat
open Go.ChangeShapes Go.WideShapes Go.ChangeAt Go.RowKit
set_option linter.unusedVariables false
set_option linter.unusedSimpArgs false
attribute [local go_sem ↓] Go.wp_at_zero Go.wp_at_succ

set_option maxRecDepth 100000 in
set_option maxHeartbeats 4000000 in
theorem refEnds_is (nm : ByteArray) (s : Int) (G : List Ga) (D : List Le) (A B : Option Addr) (gn gc dn dc k : Nat) (w : World) (hgn : Hid (gn = G.length)) (hdn : Hid (dn = D.length)) (hok : Hid (PlnOk nm s G D)) (hk : k < dn) (hG : Hid (SlRows gaV 2 w A G)) (hD : Hid (SlRows leV 3 w B D)) :
    Calls Tryz.prog 107 #[.agg #[.string nm, .int .i64 s, .slice A gn gc, .slice B dn dc], .int .i64 (k : Int)] w fun e w' => e = .returned (.tuple #[.int .i64 ((legK s G D k).su + (legK s G D k).bd), .int .i64 ((legK s G D k).su + (legK s G D k).d), .agg #[.int .i64 (legK s G D k).o, .int .i64 (legK s G D k).h]]) ∧ Below w.heap.size w w' := by
  have hkD : k < D.length := by have := hdn.out; omega
  have d60 : dn ≤ 60 := by have := hok.out.d6; have := hdn.out; omega
  obtain ⟨l1, l2, l3, l4, l5, l6⟩ := hok.out.le _ (List.getElem_mem hkD)
  have hbd := (legK_ok hok.out hkD).bd
  have hsu := hok.out.su
  obtain ⟨gk, hgk⟩ : ∃ g : Nat, D[k].g = g := ⟨D[k].g.toNat, (Int.toNat_of_nonneg l5).symm⟩
  have hgG : gk < G.length := by omega
  have hg8 := hok.out.g8
  obtain ⟨gb, gf, rfl, hlg, hGR⟩ := hG.out.at' hgG
  obtain ⟨lb, lo, rfl, hll, hDR⟩ := hD.out.at' hkD
  obtain ⟨g0, g1⟩ := ga_at hGR hgG
  obtain ⟨f0, f1, f2⟩ := le_at hDR hkD
  obtain ⟨d9, hd9⟩ : ∃ z, Hid (D[k].d = z) := ⟨_, Lib.hid rfl⟩
  obtain ⟨bd, hpd⟩ : ∃ z, Hid ((ptK D k).d = z) := ⟨_, Lib.hid rfl⟩
  obtain ⟨go, hgo⟩ : ∃ z, Hid (G[gk].o = z) := ⟨_, Lib.hid rfl⟩
  obtain ⟨gh, hgh⟩ : ∃ z, Hid (G[gk].h = z) := ⟨_, Lib.hid rfl⟩
  have hVV : Hid (Ending.returned (.tuple #[.int .i64 (s + bd), .int .i64 (s + d9), .agg #[.int .i64 go, .int .i64 gh]]) = .returned (.tuple #[.int .i64 ((legK s G D k).su + (legK s G D k).bd), .int .i64 ((legK s G D k).su + (legK s G D k).d), .agg #[.int .i64 (legK s G D k).o, .int .i64 (legK s G D k).h]])) := Lib.hid (by
    have e := getD_leE hkD
    have e2 : G.getD gk default = G[gk] := by rw [List.getD_eq_getElem?_getD, List.getElem?_eq_getElem hgG]; rfl
    simp only [legK, e, hgk, Int.toNat_natCast, e2, hd9.out, hpd.out, hgo.out, hgh.out])
  replace hbd : 0 ≤ bd ∧ bd ≤ 30000 := by rw [← hpd.out]; exact hbd
  rw [hd9.out] at f1 l3 l4
  rw [hgk] at f2
  rw [hgo.out] at g0
  rw [hgh.out] at g1
  have kn : (k : Int) < (dn : Int) := by omega
  have k0 : ¬ (k : Int) < 0 := by omega
  have gn1 : (gk : Int) < (gn : Int) := by have := hgn.out; omega
  have gn0 : ¬ (gk : Int) < 0 := by omega
  have w1 : IntKind.i64.wrap (s + bd) = s + bd := IntWalk.i64_in _ (by omega)
  have w2 : IntKind.i64.wrap (s + d9) = s + d9 := IntWalk.i64_in _ (by omega)
  have A4 := (BlkF.made (B := w.heap.size) w [.string nm, .int .i64 s, .slice (some ⟨gb, gf, none⟩) gn gc, .slice (some ⟨lb, lo, none⟩) dn dc] 25 (Nat.le_refl _)).below (Below.alloc (Below.refl _ _) (Nat.le_refl _) (.cells #[.int .i64 0, .int .i64 0] 66))
  have A2 := BlkF.made (B := w.heap.size) (w.alloc (.cells #[.string nm, .int .i64 s, .slice (some ⟨gb, gf, none⟩) gn gc, .slice (some ⟨lb, lo, none⟩) dn dc] 25)) [.int .i64 0, .int .i64 0] 66 (by simp)
  rw [show (w.alloc (.cells #[.string nm, .int .i64 s, .slice (some ⟨gb, gf, none⟩) gn gc, .slice (some ⟨lb, lo, none⟩) dn dc] 25)).heap.size = w.heap.size + 1 by simp] at A2
  clear l1 l2 l3 l4 l5 l6 hgk hGR hg8 f0
  by_cases hk0 : k = 0
  · obtain rfl : bd = 0 := by rw [← hpd.out]; unfold ptK; rw [if_pos hk0]
    have h0 : ¬ (0 : Int) < (k : Int) := by omega
    have w0 : IntKind.i64.wrap s = s := IntWalk.i64_in _ (by omega)
    clear hDR hk0 hbd hpd
    go_enter Tryz.func107, Tryz.ntmps107
    go_upto_region 4 with (fail)
    obtain ⟨rb, hrb⟩ : ∃ b, w.heap.size + 1 = b := ⟨_, rfl⟩
    rw [hrb] at A2
    refine wp_worldE (fun u => BlkF u w.heap.size w.heap.size [.string nm, .int .i64 s, .slice (some ⟨gb, gf, none⟩) gn gc, .slice (some ⟨lb, lo, none⟩) dn dc] ∧ BlkF u w.heap.size rb [.int .i64 0, .int .i64 0] ∧ Below w.heap.size w u) ⟨A4, A2, (by (repeat (first | (with_reducible refine Below.drew ?_) | (with_reducible refine below_drewN ?_ _) | (with_reducible refine Below.alloc ?_ (by first | omega | (simp; done) | (simp; omega) | (simp at *; omega)) _) | (with_reducible refine Below.setCell ?_ (by first | omega | (simp; done) | (simp; omega) | (simp at *; omega)) _) | (with_reducible exact Below.refl _ _) | (with_reducible assumption) | (with_reducible refine Below.trans ?_ (Below.mono (by assumption) (by first | omega | (simp; done) | (simp; omega) | (simp at *; omega)))))))⟩ (fun u hu => ?_)
    try rw [hrb]
    have hne1 : rb ≠ w.heap.size := by omega
    have hge : w.heap.size ≤ rb := by omega
    have hrw : rb < w.heap.size + 2 := by omega
    clear A4 A2 hrb
    obtain ⟨A4, A2, hB0⟩ := hu
    have HNrb := Lib.hid A2
    have hl0 := A4.lt
    obtain ⟨c0, c1, c2, c3⟩ := b4 A4
    have g0' := (hB0.cell (p := ⟨gb, gf + gk * 2, none⟩) hlg).trans g0
    have g1' := (hB0.cell (p := ⟨gb, gf + gk * 2 + 1, none⟩) hlg).trans g1
    have f1' := (hB0.cell (p := ⟨lb, lo + k * 3 + 1, none⟩) hll).trans f1
    have f2' := (hB0.cell (p := ⟨lb, lo + k * 3 + 2, none⟩) hll).trans f2
    have hlg0 := hlg
    have hll0 := hll
    replace hlg : gb < u.heap.size := Nat.lt_of_lt_of_le hlg hB0.size
    replace hll : lb < u.heap.size := Nat.lt_of_lt_of_le hll hB0.size
    have HS : Hid (∀ y, Below u.heap.size u y → y.cell? ⟨w.heap.size, 0, none⟩ = some (.string nm) ∧ y.cell? ⟨w.heap.size, 1, none⟩ = some (.int .i64 s) ∧ y.cell? ⟨w.heap.size, 2, none⟩ = some (.slice (some ⟨gb, gf, none⟩) gn gc) ∧ y.cell? ⟨w.heap.size, 3, none⟩ = some (.slice (some ⟨lb, lo, none⟩) dn dc) ∧ y.cell? ⟨lb, lo + k * 3 + 1, none⟩ = some (.int .i64 d9) ∧ y.cell? ⟨lb, lo + k * 3 + 2, none⟩ = some (.int .i64 (gk : Int)) ∧ y.cell? ⟨gb, gf + gk * 2, none⟩ = some (.int .i64 go) ∧ y.cell? ⟨gb, gf + gk * 2 + 1, none⟩ = some (.int .i64 gh)) := Lib.hid fun y hy => ⟨(hy.cell (p := ⟨w.heap.size, 0, none⟩) hl0).trans c0, (hy.cell (p := ⟨w.heap.size, 1, none⟩) hl0).trans c1, (hy.cell (p := ⟨w.heap.size, 2, none⟩) hl0).trans c2, (hy.cell (p := ⟨w.heap.size, 3, none⟩) hl0).trans c3, (hy.cell (p := ⟨lb, lo + k * 3 + 1, none⟩) hll).trans f1', (hy.cell (p := ⟨lb, lo + k * 3 + 2, none⟩) hll).trans f2', (hy.cell (p := ⟨gb, gf + gk * 2, none⟩) hlg).trans g0', (hy.cell (p := ⟨gb, gf + gk * 2 + 1, none⟩) hlg).trans g1'⟩
    clear A4 A2 c0 c1 c2 c3 f1' f2' g0' g1' g0 g1 f1 f2
    refine wp_region_held_drew (S := (fun w' => w'.cell? ⟨w.heap.size, 0, none⟩ = some (.string nm) ∧ w'.cell? ⟨w.heap.size, 1, none⟩ = some (.int .i64 s) ∧ w'.cell? ⟨w.heap.size, 2, none⟩ = some (.slice (some ⟨gb, gf, none⟩) gn gc) ∧ w'.cell? ⟨w.heap.size, 3, none⟩ = some (.slice (some ⟨lb, lo, none⟩) dn dc) ∧ w'.cell? ⟨lb, lo + k * 3 + 1, none⟩ = some (.int .i64 d9) ∧ w'.cell? ⟨lb, lo + k * 3 + 2, none⟩ = some (.int .i64 (gk : Int)) ∧ w'.cell? ⟨gb, gf + gk * 2, none⟩ = some (.int .i64 go) ∧ w'.cell? ⟨gb, gf + gk * 2 + 1, none⟩ = some (.int .i64 gh))) (by kernel_rfl) (HS.out _ (Below.refl _ _).drew) (fun hHeld => ?_)
    have hT0 : Below u.heap.size u u.drew := (Below.refl _ _).drew
    replace HNrb := Lib.hid (HNrb.out.below (Below.refl u.heap.size u).drew)
    generalize hdr : u.drew = v0 at *
    clear hdr
    refine tkH 0 ⟨some 17, _, _, _, _, _⟩ ?_ rfl ?_ (by assumption) ?_
    rotate_left
    · (intro w hSw; (try dsimp only at hSw); go_simp; all_goals with_reducible rfl)
    try simp only [Act.put, sA, sB, sC]
    refine tkH 1 ⟨some 18, _, _, _, _, _⟩ ?_ rfl ?_ (by assumption) ?_
    rotate_left
    · (intro w hSw; (try dsimp only at hSw); go_simp; all_goals with_reducible rfl)
    try simp only [Act.put, sA, sB, sC]
    refine tkH 2 ⟨some 19, _, _, _, _, _⟩ ?_ rfl ?_ (by assumption) ?_
    rotate_left
    · (intro w hSw; (try dsimp only at hSw); go_simp; all_goals with_reducible rfl)
    try simp only [Act.put, sA, sB, sC]
    refine tkH 3 ⟨some 20, _, _, _, _, _⟩ ?_ rfl ?_ (by assumption) ?_
    rotate_left
    · (intro w hSw; (try dsimp only at hSw); go_simp; all_goals with_reducible rfl)
    try simp only [Act.put, sA, sB, sC]
    refine tkH 4 ⟨some 21, _, _, _, _, _⟩ ?_ rfl ?_ (by assumption) ?_
    rotate_left
    · (intro w hSw; (try dsimp only at hSw); go_simp; all_goals with_reducible rfl)
    try simp only [Act.put, sA, sB, sC]
    refine tkH 5 ⟨some 22, _, _, _, _, _⟩ ?_ rfl ?_ (by assumption) ?_
    rotate_left
    · (intro w hSw; (try dsimp only at hSw); go_simp; all_goals with_reducible rfl)
    try simp only [Act.put, sA, sB, sC]
    refine tkH 6 ⟨some 23, _, _, _, _, _⟩ ?_ rfl ?_ (by assumption) ?_
    rotate_left
    · (intro w hSw; (try dsimp only at hSw); go_simp; all_goals with_reducible rfl)
    try simp only [Act.put, sA, sB, sC]
    refine tkH 7 ⟨some 24, _, _, _, _, _⟩ ?_ rfl ?_ (by assumption) ?_
    rotate_left
    · (intro w hSw; (try dsimp only at hSw); go_simp; all_goals with_reducible rfl)
    try simp only [Act.put, sA, sB, sC]
    refine tkH 8 ⟨some 25, _, _, _, _, _⟩ ?_ rfl ?_ (by assumption) ?_
    rotate_left
    · (intro w hSw; (try dsimp only at hSw); go_simp; all_goals with_reducible rfl)
    try simp only [Act.put, sA, sB, sC]
    refine tkH 9 ⟨some 26, _, _, _, _, _⟩ ?_ rfl ?_ (by assumption) ?_
    rotate_left
    · (intro w hSw; (try dsimp only at hSw); go_simp; all_goals with_reducible rfl)
    try simp only [Act.put, sA, sB, sC]
    refine tkH 10 ⟨some 27, _, _, _, _, _⟩ ?_ rfl ?_ (by assumption) ?_
    rotate_left
    · (intro w hSw; (try dsimp only at hSw); go_simp; all_goals with_reducible rfl)
    try simp only [Act.put, sA, sB, sC]
    refine tkH 11 ⟨some 28, _, _, _, _, _⟩ ?_ rfl ?_ (by assumption) ?_
    rotate_left
    · (intro w hSw; (try dsimp only at hSw); go_simp; all_goals with_reducible rfl)
    try simp only [Act.put, sA, sB, sC]
    refine tkH 12 ⟨some 29, _, _, _, _, _⟩ ?_ rfl ?_ (by assumption) ?_
    rotate_left
    · (intro w hSw; (try dsimp only at hSw); go_simp; all_goals with_reducible rfl)
    try simp only [Act.put, sA, sB, sC]
    refine tkH 13 ⟨some 30, _, _, _, _, _⟩ ?_ rfl ?_ (by assumption) ?_
    rotate_left
    · (intro w hSw; (try dsimp only at hSw); go_simp; all_goals with_reducible rfl)
    try simp only [Act.put, sA, sB, sC]
    refine tkH 14 ⟨some 31, _, _, _, _, _⟩ ?_ rfl ?_ (by assumption) ?_
    rotate_left
    · (intro w hSw; (try dsimp only at hSw); go_simp; all_goals with_reducible rfl)
    try simp only [Act.put, sA, sB, sC]
    refine tkH 15 ⟨some 32, _, _, _, _, _⟩ ?_ rfl ?_ (by assumption) ?_
    rotate_left
    · (intro w hSw; (try dsimp only at hSw); go_simp; all_goals with_reducible rfl)
    try simp only [Act.put, sA, sB, sC]
    refine tkH 16 ⟨some 33, _, _, _, _, _⟩ ?_ rfl ?_ (by assumption) ?_
    rotate_left
    · (intro w hSw; (try dsimp only at hSw); go_simp; all_goals with_reducible rfl)
    try simp only [Act.put, sA, sB, sC]
    refine tkH 17 ⟨some 34, _, _, _, _, _⟩ ?_ rfl ?_ (by assumption) ?_
    rotate_left
    · (intro w hSw; (try dsimp only at hSw); go_simp; all_goals with_reducible rfl)
    try simp only [Act.put, sA, sB, sC]
    refine tkH 18 ⟨some 35, _, _, _, _, _⟩ ?_ rfl ?_ (by assumption) ?_
    rotate_left
    · (intro w hSw; (try dsimp only at hSw); go_simp; all_goals with_reducible rfl)
    try simp only [Act.put, sA, sB, sC]
    refine tkH 19 ⟨some 36, _, _, _, _, _⟩ ?_ rfl ?_ (by assumption) ?_
    rotate_left
    · (intro w hSw; (try dsimp only at hSw); go_simp; all_goals with_reducible rfl)
    try simp only [Act.put, sA, sB, sC]
    refine tkH 20 ⟨some 37, _, _, _, _, _⟩ ?_ rfl ?_ (by assumption) ?_
    rotate_left
    · (intro w hSw; (try dsimp only at hSw); go_simp; all_goals with_reducible rfl)
    try simp only [Act.put, sA, sB, sC]
    refine tkH 21 ⟨some 38, _, _, _, _, _⟩ ?_ rfl ?_ (by assumption) ?_
    rotate_left
    · (intro w hSw; (try dsimp only at hSw); go_simp; all_goals with_reducible rfl)
    try simp only [Act.put, sA, sB, sC]
    refine tkH 22 ⟨some 39, _, _, _, _, _⟩ ?_ rfl ?_ (by assumption) ?_
    rotate_left
    · (intro w hSw; (try dsimp only at hSw); go_simp; all_goals with_reducible rfl)
    try simp only [Act.put, sA, sB, sC]
    refine tkH 23 ⟨some 4, _, _, _, _, _⟩ ?_ rfl ?_ (by assumption) ?_
    rotate_left
    · (intro w hSw; (try dsimp only at hSw); go_simp; all_goals with_reducible rfl)
    try simp only [Act.put, sA, sB, sC]
    refine tkH 24 ⟨some 5, _, _, _, _, _⟩ ?_ rfl ?_ (by assumption) ?_
    rotate_left
    · (intro w hSw; (try dsimp only at hSw); go_simp; all_goals with_reducible rfl)
    try simp only [Act.put, sA, sB, sC]
    refine wpAnyH_ready (rs := [25]) (by kernel_rfl) (by simp) ?_
    refine AllReadyH.cons rfl (fun K hK => ?_) (AllReadyH.nil)
    have HBs := Lib.hid (BlkF.st (vs' := [.int .i64 go, .int .i64 gh]) HNrb.out rfl)
    have hTs := Lib.hid (stW_below (N := w.heap.size) (w := w) HNrb.out.ge [.int .i64 go, .int .i64 gh] v0 0 (hB0.trans (hT0.mono hB0.size)))
    have hSs : ((v0.setCell ⟨rb, 0, none⟩ (.int .i64 go)).setCell ⟨rb, 1, none⟩ (.int .i64 gh)).cell? ⟨w.heap.size, 0, none⟩ = some (.string nm) ∧ ((v0.setCell ⟨rb, 0, none⟩ (.int .i64 go)).setCell ⟨rb, 1, none⟩ (.int .i64 gh)).cell? ⟨w.heap.size, 1, none⟩ = some (.int .i64 s) ∧ ((v0.setCell ⟨rb, 0, none⟩ (.int .i64 go)).setCell ⟨rb, 1, none⟩ (.int .i64 gh)).cell? ⟨w.heap.size, 2, none⟩ = some (.slice (some ⟨gb, gf, none⟩) gn gc) ∧ ((v0.setCell ⟨rb, 0, none⟩ (.int .i64 go)).setCell ⟨rb, 1, none⟩ (.int .i64 gh)).cell? ⟨w.heap.size, 3, none⟩ = some (.slice (some ⟨lb, lo, none⟩) dn dc) ∧ ((v0.setCell ⟨rb, 0, none⟩ (.int .i64 go)).setCell ⟨rb, 1, none⟩ (.int .i64 gh)).cell? ⟨lb, lo + k * 3 + 1, none⟩ = some (.int .i64 d9) ∧ ((v0.setCell ⟨rb, 0, none⟩ (.int .i64 go)).setCell ⟨rb, 1, none⟩ (.int .i64 gh)).cell? ⟨lb, lo + k * 3 + 2, none⟩ = some (.int .i64 (gk : Int)) ∧ ((v0.setCell ⟨rb, 0, none⟩ (.int .i64 go)).setCell ⟨rb, 1, none⟩ (.int .i64 gh)).cell? ⟨gb, gf + gk * 2, none⟩ = some (.int .i64 go) ∧ ((v0.setCell ⟨rb, 0, none⟩ (.int .i64 go)).setCell ⟨rb, 1, none⟩ (.int .i64 gh)).cell? ⟨gb, gf + gk * 2 + 1, none⟩ = some (.int .i64 gh) := by
      obtain ⟨h0, h1, h2, h3, h4, h5, h6, h7⟩ := hHeld
      exact ⟨(stW_oc (l := [.int .i64 go, .int .i64 gh]) (i := 0) (show w.heap.size ≠ rb by omega) (0)).trans h0, (stW_oc (l := [.int .i64 go, .int .i64 gh]) (i := 0) (show w.heap.size ≠ rb by omega) (1)).trans h1, (stW_oc (l := [.int .i64 go, .int .i64 gh]) (i := 0) (show w.heap.size ≠ rb by omega) (2)).trans h2, (stW_oc (l := [.int .i64 go, .int .i64 gh]) (i := 0) (show w.heap.size ≠ rb by omega) (3)).trans h3, (stW_oc (l := [.int .i64 go, .int .i64 gh]) (i := 0) (show lb ≠ rb by omega) (lo + k * 3 + 1)).trans h4, (stW_oc (l := [.int .i64 go, .int .i64 gh]) (i := 0) (show lb ≠ rb by omega) (lo + k * 3 + 2)).trans h5, (stW_oc (l := [.int .i64 go, .int .i64 gh]) (i := 0) (show gb ≠ rb by omega) (gf + gk * 2)).trans h6, (stW_oc (l := [.int .i64 go, .int .i64 gh]) (i := 0) (show gb ≠ rb by omega) (gf + gk * 2 + 1)).trans h7⟩
    obtain ⟨k0, k1⟩ := b2 HNrb.out
    have kf := HNrb.out.fz
    go_simp
    go_wp2_with fail
    refine hK.out _ _ hSs (fun hHeld => ?_)
    clear hK K kf hSs k0 k1
    try simp only [Act.put, sA, sB, sC]
    refine wpAnyH_done (by kernel_rfl) ?_ _
    refine ex_world (fun vz => BlkF vz w.heap.size rb [.int .i64 go, .int .i64 gh] ∧ Below w.heap.size w vz) ⟨HBs.out, hTs.out⟩ (fun vz hvz => ?_)
    obtain ⟨HBz, hTz⟩ := hvz
    clear hHeld HS HBs hTs 
    obtain ⟨r0, r1⟩ := b2 HBz
    have hTz2 := Lib.hid hTz
    clear HBz hTz
    go_wp2
    refine bodyPost_ret (v := .tuple #[.int .i64 (s + 0), .int .i64 (s + d9), .agg #[.int .i64 go, .int .i64 gh]]) (by simp [results, Tryz.results107, go_sem, *]) rfl ⟨hVV.out, hTz2.out⟩
  · have hq : k - 1 < D.length := by omega
    obtain ⟨q, hqq⟩ : ∃ q : Nat, Hid (k = q + 1) := ⟨k - 1, Lib.hid (by omega)⟩
    have hqk : k - 1 = q := by have := hqq.out; omega
    have e1 := (le_at hDR hq).2.1
    have hb : D[k - 1].d = bd := by
      have := hpd.out
      unfold ptK at this
      rw [if_neg hk0, getD_leE hq] at this
      exact this
    rw [hb, hqk] at e1
    have h0 : (0 : Int) < (k : Int) := by omega
    have wq : IntKind.i64.wrap ((k : Int) - 1) = (q : Int) := by rw [IntWalk.i64_in _ (by omega)]; have := hqq.out; omega
    have q0 : ¬ (q : Int) < 0 := by omega
    have qn : (q : Int) < (dn : Int) := by have := hqq.out; omega
    clear hDR hk0 hbd hpd hqk hb hq
    go_enter Tryz.func107, Tryz.ntmps107
    go_upto_region 4 with (fail)
    obtain ⟨rb, hrb⟩ : ∃ b, w.heap.size + 1 = b := ⟨_, rfl⟩
    rw [hrb] at A2
    refine wp_worldE (fun u => BlkF u w.heap.size w.heap.size [.string nm, .int .i64 s, .slice (some ⟨gb, gf, none⟩) gn gc, .slice (some ⟨lb, lo, none⟩) dn dc] ∧ BlkF u w.heap.size rb [.int .i64 0, .int .i64 0] ∧ Below w.heap.size w u) ⟨A4, A2, (by (repeat (first | (with_reducible refine Below.drew ?_) | (with_reducible refine below_drewN ?_ _) | (with_reducible refine Below.alloc ?_ (by first | omega | (simp; done) | (simp; omega) | (simp at *; omega)) _) | (with_reducible refine Below.setCell ?_ (by first | omega | (simp; done) | (simp; omega) | (simp at *; omega)) _) | (with_reducible exact Below.refl _ _) | (with_reducible assumption) | (with_reducible refine Below.trans ?_ (Below.mono (by assumption) (by first | omega | (simp; done) | (simp; omega) | (simp at *; omega)))))))⟩ (fun u hu => ?_)
    try rw [hrb]
    have hne1 : rb ≠ w.heap.size := by omega
    have hge : w.heap.size ≤ rb := by omega
    have hrw : rb < w.heap.size + 2 := by omega
    clear A4 A2 hrb
    obtain ⟨A4, A2, hB0⟩ := hu
    have HNrb := Lib.hid A2
    have hl0 := A4.lt
    obtain ⟨c0, c1, c2, c3⟩ := b4 A4
    have g0' := (hB0.cell (p := ⟨gb, gf + gk * 2, none⟩) hlg).trans g0
    have g1' := (hB0.cell (p := ⟨gb, gf + gk * 2 + 1, none⟩) hlg).trans g1
    have f1' := (hB0.cell (p := ⟨lb, lo + k * 3 + 1, none⟩) hll).trans f1
    have f2' := (hB0.cell (p := ⟨lb, lo + k * 3 + 2, none⟩) hll).trans f2
    have hlg0 := hlg
    have hll0 := hll
    replace hlg : gb < u.heap.size := Nat.lt_of_lt_of_le hlg hB0.size
    replace hll : lb < u.heap.size := Nat.lt_of_lt_of_le hll hB0.size
    have HS : Hid (∀ y, Below u.heap.size u y → y.cell? ⟨w.heap.size, 0, none⟩ = some (.string nm) ∧ y.cell? ⟨w.heap.size, 1, none⟩ = some (.int .i64 s) ∧ y.cell? ⟨w.heap.size, 2, none⟩ = some (.slice (some ⟨gb, gf, none⟩) gn gc) ∧ y.cell? ⟨w.heap.size, 3, none⟩ = some (.slice (some ⟨lb, lo, none⟩) dn dc) ∧ y.cell? ⟨lb, lo + k * 3 + 1, none⟩ = some (.int .i64 d9) ∧ y.cell? ⟨lb, lo + k * 3 + 2, none⟩ = some (.int .i64 (gk : Int)) ∧ y.cell? ⟨gb, gf + gk * 2, none⟩ = some (.int .i64 go) ∧ y.cell? ⟨gb, gf + gk * 2 + 1, none⟩ = some (.int .i64 gh)) := Lib.hid fun y hy => ⟨(hy.cell (p := ⟨w.heap.size, 0, none⟩) hl0).trans c0, (hy.cell (p := ⟨w.heap.size, 1, none⟩) hl0).trans c1, (hy.cell (p := ⟨w.heap.size, 2, none⟩) hl0).trans c2, (hy.cell (p := ⟨w.heap.size, 3, none⟩) hl0).trans c3, (hy.cell (p := ⟨lb, lo + k * 3 + 1, none⟩) hll).trans f1', (hy.cell (p := ⟨lb, lo + k * 3 + 2, none⟩) hll).trans f2', (hy.cell (p := ⟨gb, gf + gk * 2, none⟩) hlg).trans g0', (hy.cell (p := ⟨gb, gf + gk * 2 + 1, none⟩) hlg).trans g1'⟩
    clear A4 A2 c0 c1 c2 c3 f1' f2' g0' g1' g0 g1 f1 f2
    refine wp_region_held_drew (S := (fun w' => w'.cell? ⟨w.heap.size, 0, none⟩ = some (.string nm) ∧ w'.cell? ⟨w.heap.size, 1, none⟩ = some (.int .i64 s) ∧ w'.cell? ⟨w.heap.size, 2, none⟩ = some (.slice (some ⟨gb, gf, none⟩) gn gc) ∧ w'.cell? ⟨w.heap.size, 3, none⟩ = some (.slice (some ⟨lb, lo, none⟩) dn dc) ∧ w'.cell? ⟨lb, lo + k * 3 + 1, none⟩ = some (.int .i64 d9) ∧ w'.cell? ⟨lb, lo + k * 3 + 2, none⟩ = some (.int .i64 (gk : Int)) ∧ w'.cell? ⟨gb, gf + gk * 2, none⟩ = some (.int .i64 go) ∧ w'.cell? ⟨gb, gf + gk * 2 + 1, none⟩ = some (.int .i64 gh))) (by kernel_rfl) (HS.out _ (Below.refl _ _).drew) (fun hHeld => ?_)
    have hT0 : Below u.heap.size u u.drew := (Below.refl _ _).drew
    replace HNrb := Lib.hid (HNrb.out.below (Below.refl u.heap.size u).drew)
    generalize hdr : u.drew = v0 at *
    clear hdr
    refine tkH 0 ⟨some 17, _, _, _, _, _⟩ ?_ rfl ?_ (by assumption) ?_
    rotate_left
    · (intro w hSw; (try dsimp only at hSw); go_simp; all_goals with_reducible rfl)
    try simp only [Act.put, sA, sB, sC]
    refine tkH 1 ⟨some 18, _, _, _, _, _⟩ ?_ rfl ?_ (by assumption) ?_
    rotate_left
    · (intro w hSw; (try dsimp only at hSw); go_simp; all_goals with_reducible rfl)
    try simp only [Act.put, sA, sB, sC]
    refine tkH 2 ⟨some 19, _, _, _, _, _⟩ ?_ rfl ?_ (by assumption) ?_
    rotate_left
    · (intro w hSw; (try dsimp only at hSw); go_simp; all_goals with_reducible rfl)
    try simp only [Act.put, sA, sB, sC]
    refine tkH 3 ⟨some 20, _, _, _, _, _⟩ ?_ rfl ?_ (by assumption) ?_
    rotate_left
    · (intro w hSw; (try dsimp only at hSw); go_simp; all_goals with_reducible rfl)
    try simp only [Act.put, sA, sB, sC]
    refine tkH 4 ⟨some 21, _, _, _, _, _⟩ ?_ rfl ?_ (by assumption) ?_
    rotate_left
    · (intro w hSw; (try dsimp only at hSw); go_simp; all_goals with_reducible rfl)
    try simp only [Act.put, sA, sB, sC]
    refine tkH 5 ⟨some 22, _, _, _, _, _⟩ ?_ rfl ?_ (by assumption) ?_
    rotate_left
    · (intro w hSw; (try dsimp only at hSw); go_simp; all_goals with_reducible rfl)
    try simp only [Act.put, sA, sB, sC]
    refine tkH 6 ⟨some 23, _, _, _, _, _⟩ ?_ rfl ?_ (by assumption) ?_
    rotate_left
    · (intro w hSw; (try dsimp only at hSw); go_simp; all_goals with_reducible rfl)
    try simp only [Act.put, sA, sB, sC]
    refine tkH 7 ⟨some 24, _, _, _, _, _⟩ ?_ rfl ?_ (by assumption) ?_
    rotate_left
    · (intro w hSw; (try dsimp only at hSw); go_simp; all_goals with_reducible rfl)
    try simp only [Act.put, sA, sB, sC]
    refine tkH 8 ⟨some 25, _, _, _, _, _⟩ ?_ rfl ?_ (by assumption) ?_
    rotate_left
    · (intro w hSw; (try dsimp only at hSw); go_simp; all_goals with_reducible rfl)
    try simp only [Act.put, sA, sB, sC]
    refine tkH 9 ⟨some 26, _, _, _, _, _⟩ ?_ rfl ?_ (by assumption) ?_
    rotate_left
    · (intro w hSw; (try dsimp only at hSw); go_simp; all_goals with_reducible rfl)
    try simp only [Act.put, sA, sB, sC]
    refine tkH 10 ⟨some 27, _, _, _, _, _⟩ ?_ rfl ?_ (by assumption) ?_
    rotate_left
    · (intro w hSw; (try dsimp only at hSw); go_simp; all_goals with_reducible rfl)
    try simp only [Act.put, sA, sB, sC]
    refine tkH 11 ⟨some 28, _, _, _, _, _⟩ ?_ rfl ?_ (by assumption) ?_
    rotate_left
    · (intro w hSw; (try dsimp only at hSw); go_simp; all_goals with_reducible rfl)
    try simp only [Act.put, sA, sB, sC]
    refine tkH 12 ⟨some 29, _, _, _, _, _⟩ ?_ rfl ?_ (by assumption) ?_
    rotate_left
    · (intro w hSw; (try dsimp only at hSw); go_simp; all_goals with_reducible rfl)
    try simp only [Act.put, sA, sB, sC]
    refine tkH 13 ⟨some 30, _, _, _, _, _⟩ ?_ rfl ?_ (by assumption) ?_
    rotate_left
    · (intro w hSw; (try dsimp only at hSw); go_simp; all_goals with_reducible rfl)
    try simp only [Act.put, sA, sB, sC]
    refine tkH 14 ⟨some 31, _, _, _, _, _⟩ ?_ rfl ?_ (by assumption) ?_
    rotate_left
    · (intro w hSw; (try dsimp only at hSw); go_simp; all_goals with_reducible rfl)
    try simp only [Act.put, sA, sB, sC]
    refine tkH 15 ⟨some 32, _, _, _, _, _⟩ ?_ rfl ?_ (by assumption) ?_
    rotate_left
    · (intro w hSw; (try dsimp only at hSw); go_simp; all_goals with_reducible rfl)
    try simp only [Act.put, sA, sB, sC]
    refine tkH 16 ⟨some 33, _, _, _, _, _⟩ ?_ rfl ?_ (by assumption) ?_
    rotate_left
    · (intro w hSw; (try dsimp only at hSw); go_simp; all_goals with_reducible rfl)
    try simp only [Act.put, sA, sB, sC]
    refine tkH 17 ⟨some 34, _, _, _, _, _⟩ ?_ rfl ?_ (by assumption) ?_
    rotate_left
    · (intro w hSw; (try dsimp only at hSw); go_simp; all_goals with_reducible rfl)
    try simp only [Act.put, sA, sB, sC]
    refine tkH 18 ⟨some 35, _, _, _, _, _⟩ ?_ rfl ?_ (by assumption) ?_
    rotate_left
    · (intro w hSw; (try dsimp only at hSw); go_simp; all_goals with_reducible rfl)
    try simp only [Act.put, sA, sB, sC]
    refine tkH 19 ⟨some 36, _, _, _, _, _⟩ ?_ rfl ?_ (by assumption) ?_
    rotate_left
    · (intro w hSw; (try dsimp only at hSw); go_simp; all_goals with_reducible rfl)
    try simp only [Act.put, sA, sB, sC]
    refine tkH 20 ⟨some 37, _, _, _, _, _⟩ ?_ rfl ?_ (by assumption) ?_
    rotate_left
    · (intro w hSw; (try dsimp only at hSw); go_simp; all_goals with_reducible rfl)
    try simp only [Act.put, sA, sB, sC]
    refine tkH 21 ⟨some 38, _, _, _, _, _⟩ ?_ rfl ?_ (by assumption) ?_
    rotate_left
    · (intro w hSw; (try dsimp only at hSw); go_simp; all_goals with_reducible rfl)
    try simp only [Act.put, sA, sB, sC]
    refine tkH 22 ⟨some 39, _, _, _, _, _⟩ ?_ rfl ?_ (by assumption) ?_
    rotate_left
    · (intro w hSw; (try dsimp only at hSw); go_simp; all_goals with_reducible rfl)
    try simp only [Act.put, sA, sB, sC]
    refine tkH 23 ⟨some 4, _, _, _, _, _⟩ ?_ rfl ?_ (by assumption) ?_
    rotate_left
    · (intro w hSw; (try dsimp only at hSw); go_simp; all_goals with_reducible rfl)
    try simp only [Act.put, sA, sB, sC]
    refine tkH 24 ⟨some 5, _, _, _, _, _⟩ ?_ rfl ?_ (by assumption) ?_
    rotate_left
    · (intro w hSw; (try dsimp only at hSw); go_simp; all_goals with_reducible rfl)
    try simp only [Act.put, sA, sB, sC]
    refine wpAnyH_ready (rs := [25]) (by kernel_rfl) (by simp) ?_
    refine AllReadyH.cons rfl (fun K hK => ?_) (AllReadyH.nil)
    have HBs := Lib.hid (BlkF.st (vs' := [.int .i64 go, .int .i64 gh]) HNrb.out rfl)
    have hTs := Lib.hid (stW_below (N := w.heap.size) (w := w) HNrb.out.ge [.int .i64 go, .int .i64 gh] v0 0 (hB0.trans (hT0.mono hB0.size)))
    have hSs : ((v0.setCell ⟨rb, 0, none⟩ (.int .i64 go)).setCell ⟨rb, 1, none⟩ (.int .i64 gh)).cell? ⟨w.heap.size, 0, none⟩ = some (.string nm) ∧ ((v0.setCell ⟨rb, 0, none⟩ (.int .i64 go)).setCell ⟨rb, 1, none⟩ (.int .i64 gh)).cell? ⟨w.heap.size, 1, none⟩ = some (.int .i64 s) ∧ ((v0.setCell ⟨rb, 0, none⟩ (.int .i64 go)).setCell ⟨rb, 1, none⟩ (.int .i64 gh)).cell? ⟨w.heap.size, 2, none⟩ = some (.slice (some ⟨gb, gf, none⟩) gn gc) ∧ ((v0.setCell ⟨rb, 0, none⟩ (.int .i64 go)).setCell ⟨rb, 1, none⟩ (.int .i64 gh)).cell? ⟨w.heap.size, 3, none⟩ = some (.slice (some ⟨lb, lo, none⟩) dn dc) ∧ ((v0.setCell ⟨rb, 0, none⟩ (.int .i64 go)).setCell ⟨rb, 1, none⟩ (.int .i64 gh)).cell? ⟨lb, lo + k * 3 + 1, none⟩ = some (.int .i64 d9) ∧ ((v0.setCell ⟨rb, 0, none⟩ (.int .i64 go)).setCell ⟨rb, 1, none⟩ (.int .i64 gh)).cell? ⟨lb, lo + k * 3 + 2, none⟩ = some (.int .i64 (gk : Int)) ∧ ((v0.setCell ⟨rb, 0, none⟩ (.int .i64 go)).setCell ⟨rb, 1, none⟩ (.int .i64 gh)).cell? ⟨gb, gf + gk * 2, none⟩ = some (.int .i64 go) ∧ ((v0.setCell ⟨rb, 0, none⟩ (.int .i64 go)).setCell ⟨rb, 1, none⟩ (.int .i64 gh)).cell? ⟨gb, gf + gk * 2 + 1, none⟩ = some (.int .i64 gh) := by
      obtain ⟨h0, h1, h2, h3, h4, h5, h6, h7⟩ := hHeld
      exact ⟨(stW_oc (l := [.int .i64 go, .int .i64 gh]) (i := 0) (show w.heap.size ≠ rb by omega) (0)).trans h0, (stW_oc (l := [.int .i64 go, .int .i64 gh]) (i := 0) (show w.heap.size ≠ rb by omega) (1)).trans h1, (stW_oc (l := [.int .i64 go, .int .i64 gh]) (i := 0) (show w.heap.size ≠ rb by omega) (2)).trans h2, (stW_oc (l := [.int .i64 go, .int .i64 gh]) (i := 0) (show w.heap.size ≠ rb by omega) (3)).trans h3, (stW_oc (l := [.int .i64 go, .int .i64 gh]) (i := 0) (show lb ≠ rb by omega) (lo + k * 3 + 1)).trans h4, (stW_oc (l := [.int .i64 go, .int .i64 gh]) (i := 0) (show lb ≠ rb by omega) (lo + k * 3 + 2)).trans h5, (stW_oc (l := [.int .i64 go, .int .i64 gh]) (i := 0) (show gb ≠ rb by omega) (gf + gk * 2)).trans h6, (stW_oc (l := [.int .i64 go, .int .i64 gh]) (i := 0) (show gb ≠ rb by omega) (gf + gk * 2 + 1)).trans h7⟩
    obtain ⟨k0, k1⟩ := b2 HNrb.out
    have kf := HNrb.out.fz
    go_simp
    go_wp2_with fail
    refine hK.out _ _ hSs (fun hHeld => ?_)
    clear hK K kf hSs k0 k1
    try simp only [Act.put, sA, sB, sC]
    refine wpAnyH_done (by kernel_rfl) ?_ _
    refine ex_world (fun vz => BlkF vz w.heap.size rb [.int .i64 go, .int .i64 gh] ∧ Below w.heap.size w vz) ⟨HBs.out, hTs.out⟩ (fun vz hvz => ?_)
    obtain ⟨HBz, hTz⟩ := hvz
    clear hHeld HS HBs hTs 
    obtain ⟨r0, r1⟩ := b2 HBz
    have hTz2 := Lib.hid hTz
    clear HBz hTz
    go_wp2
    refine bodyPost_ret (v := .tuple #[.int .i64 (s + bd), .int .i64 (s + d9), .agg #[.int .i64 go, .int .i64 gh]]) (by simp [results, Tryz.results107, go_sem, *]) rfl ⟨hVV.out, hTz2.out⟩
end Go.Proofs.YtijdphlejokijaaGreat
