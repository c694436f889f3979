import Derived.Test.YtijdphlejokijaaEKEOxo
import Derived.Outline
namespace Go.Proofs.Ytijdphlejokijaa
open Go.ChangeShapes Go.WideShapes Go.ChangeAt Go.RowKit
set_option linter.unusedVariables false
set_option linter.unusedSimpArgs false
attribute [local go_sem ↓] Go.wp_at_zero Go.wp_at_succ
theorem baseFloor_big (n d : Int) (w : World) (h0 : 0 ≤ n) (h1 : n ≤ 9000000000000000000) (h2 : 0 < d) (h3 : d ≤ 1000000000000000000) :
    Calls Try.prog 77 #[.int .i64 (-n), .int .i64 d] w fun e w' => e = .returned (.int .i64 (-((n + d - 1) / d))) ∧ w = w' := by
  have a1 : 0 ≤ n / d := Int.ediv_nonneg h0 (by omega)
  have a2 : n / d ≤ n := Int.ediv_le_self _ h0
  have hd : ¬ d = 0 := by omega
  have k1 : 1 ≤ d := by omega
  have hr0 : 0 ≤ n % d := Int.emod_nonneg _ (by omega)
  have hrl : n % d < d := Int.emod_lt_of_pos n h2
  have hm : (-n).tmod d = -(n % d) := by rw [Int.neg_tmod, Int.tmod_eq_emod_of_nonneg h0]
  have hq : (-n).tdiv d = -(n / d) := by rw [Int.neg_tdiv, Int.tdiv_eq_ediv_of_nonneg h0]
  obtain ⟨x, hx⟩ : ∃ x, Hid (-n = x) := ⟨-n, rfl⟩
  rw [hx.out] at hm hq ⊢
  obtain ⟨q, HQ⟩ : ∃ q, Hid (n / d = q) := ⟨n / d, rfl⟩
  obtain ⟨r, HR⟩ : ∃ r, Hid (n % d = r) := ⟨n % d, rfl⟩
  rw [HQ.out] at a1 a2 hq
  rw [HR.out] at hr0 hrl hm
  have w1 : IntKind.i64.wrap (x.tdiv d) = -q := by rw [hq]; exact IntWalk.i64_in _ (by omega)
  have w2 : IntKind.i64.wrap (-q - 1) = -q - 1 := IntWalk.i64_in _ (by omega)
  by_cases hz : r = 0
  · have e : Hid (-((n + d - 1) / d) = -q) := by show _ = _; rw [ceil_z h0 h2 (by rw [HR.out]; exact hz), HQ.out]
    rw [e.out]
    have hm0 : x.tmod d = 0 := by omega
    clear hm hz hr0 hrl
    go_enter Try.func77, Try.ntmps77
    go_wp2
    go_ret
    exact ⟨rfl, rfl⟩
  · have e : Hid (-((n + d - 1) / d) = -q - 1) := by show _ = _; rw [ceil_s h0 h2 (by rw [HR.out]; omega), HQ.out]; omega
    rw [e.out]
    have hp : 0 < r := by omega
    go_enter Try.func77, Try.ntmps77
    go_wp2
    go_ret
    exact ⟨rfl, rfl⟩
theorem baseCeil_big (n d : Int) (w : World) (h0 : 0 ≤ n) (h1 : n ≤ 9000000000000000000) (h2 : 0 < d) (h3 : d ≤ 1000000000000000000) :
    Calls Try.prog 78 #[.int .i64 n, .int .i64 d] w fun e w' => e = .returned (.int .i64 ((n + d - 1) / d)) ∧ w = w' := by
  have b1 : 0 ≤ (n + d - 1) / d := Int.ediv_nonneg (by omega) (by omega)
  have b2 : (n + d - 1) / d ≤ n := (upE_bd (n := n) (d := d) h0 (by omega)).2
  have hF := Lib.hid fun w => baseFloor_big n d w h0 h1 h2 h3
  obtain ⟨c, hc⟩ : ∃ c, Hid ((n + d - 1) / d = c) := ⟨_, rfl⟩
  rw [hc.out] at b1 b2 ⊢
  have hF2 := Lib.hid fun w => (by have := hF.out w; rw [hc.out] at this; exact this : Calls Try.prog 77 #[.int .i64 (-n), .int .i64 d] w fun e w' => e = .returned (.int .i64 (-c)) ∧ w = w')
  go_enter Try.func78, Try.ntmps78
  go_wp2_with ((go_at_call 77; ((with_reducible refine (hF2.out _).mono ?_)); rintro e w' ⟨rfl, rfl⟩))
  go_ret
  exact ⟨ret_int (by simp), rfl⟩
theorem ceilU (n d q : Int) (w : World) (h0 : 0 ≤ n) (h1 : n ≤ 9000000000000000000) (h2 : 0 < d) (h3 : d ≤ 1000000000000000000) (hq : Hid (upE n d = q)) : Calls Try.prog 78 #[.int .i64 n, .int .i64 d] w fun e w' => e = .returned (.int .i64 q) ∧ w = w' := by
  rw [← hq.out]; exact baseCeil_big n d w h0 h1 h2 h3
set_option maxRecDepth 100000 in
set_option maxHeartbeats 8000000 in
theorem refClock_is (nm : ByteArray) (s : Int) (G : List Ga) (D : List Le) (A B : Option Addr) (gn gc dn dc : Nat) (T : List Ox) (r : Ru) (AT : Option Addr) (tn tc : Nat) (kk : Nat) (q : Int) (w : World) (hgn : Hid (gn = G.length)) (hdn : Hid (dn = D.length)) (hok : Hid (PlnOk nm s G D)) (hG : Hid (SlRows gaV 2 w A G)) (hD : Hid (SlRows leV 3 w B D)) (htn : Hid (tn = T.length)) (hT : Hid (SlRows oxV 2 w AT T)) (hox : Hid (OxOk T)) (hk : kk < dn) (hq : Hid (clkV T (legK s G D kk).s (oxLo (legK s G D kk)) (oxHi (legK s G D kk)) = q)) :
    Calls Try.prog 29 #[.agg #[.string nm, .int .i64 s, .slice A gn gc, .slice B dn dc], .agg #[.slice AT tn tc, .int .i64 r.a, .int .i64 r.b, .int .i64 r.nc, .int .i64 r.dn, .int .i64 r.br, .int .i64 r.em, .int .i64 r.pa, .int .i64 r.sc], .int .i64 (kk : Int)] w fun e w' => e = .returned (.int .i64 q) ∧ Below w.heap.size w w' := by
  have n20 : tn ≤ 20 := by have := hox.out.l; have := htn.out; omega
  have hkD : kk < D.length := by have := hdn.out; omega
  have hPok := legK_ok hok.out hkD
  obtain ⟨lb, lo, rfl, hll, hDR⟩ := hD.out.at' hkD
  obtain ⟨f0, f1, f2⟩ := le_at hDR hkD
  obtain ⟨s9, hs9⟩ : ∃ z, Hid (D[kk].s = z) := ⟨_, Lib.hid rfl⟩
  rw [hs9.out] at f0
  obtain ⟨y, hy⟩ : ∃ z, Hid (legK s G D kk = z) := ⟨_, Lib.hid rfl⟩
  have hys : y.s = s9 := by rw [← hy.out]; show (D.getD kk default).s = s9; rw [getD_leE hkD]; exact hs9.out
  have HEN := Lib.hid (fun X hG hD => refEnds_is nm s G D A (some ⟨lb, lo, none⟩) gn gc dn dc kk X hgn hdn hok hk hG hD)
  rw [hy.out] at hPok HEN
  have hq1 := hq.out
  rw [hy.out, hys] at hq1
  clear hq hDR f1 f2
  have bo := ox_bd hPok
  have hsu := hPok.su
  have hbd := hPok.bd
  have hdd := hPok.d
  have hss := hPok.s
  rw [hys] at hss
  obtain ⟨hs1, hs2⟩ := hss
  obtain ⟨ys, yd, yg, ynu, ybs, ybd, ysu, yo, yh⟩ := y
  dsimp only at *
  obtain ⟨ol, hol⟩ : ∃ z, Hid (oxLo ⟨ys, yd, yg, ynu, ybs, ybd, ysu, yo, yh⟩ = z) := ⟨_, Lib.hid rfl⟩
  obtain ⟨oh, hoh⟩ : ∃ z, Hid (oxHi ⟨ys, yd, yg, ynu, ybs, ybd, ysu, yo, yh⟩ = z) := ⟨_, Lib.hid rfl⟩
  rw [hol.out, hoh.out] at bo hq1
  obtain ⟨b0, b1, b2'⟩ := bo
  unfold clkV at hq1
  have hpl' := hol.out
  have hph' := hoh.out
  unfold oxLo at hpl'
  unfold oxHi at hph'
  dsimp only at hpl' hph'
  have kn0 : ¬ (kk : Int) < 0 := by omega
  have kn9 : (kk : Int) < (dn : Int) := by omega
  obtain ⟨pa, hpa⟩ : ∃ z, ysu + ybd = z := ⟨_, rfl⟩
  obtain ⟨pb, hpb⟩ : ∃ z, ysu + yd = z := ⟨_, rfl⟩
  rw [hpa, hpb] at HEN
  by_cases hle : pa ≤ pb
  · have hm1 : ysu + min ybd yd = pa := by omega
    have hm2 : ysu + max ybd yd = pb := by omega
    rw [hm1] at hpl'
    rw [hm2] at hph'
    have e1 : (if pb < pa then pb else pa) = pa := by split <;> omega
    have e2 : (if pa < pb then pb else pa) = pb := by split <;> omega
    have w1 : IntKind.i64.wrap (yo * pa) = ol := by rw [hpl']; exact IntWalk.i64_in _ (by omega)
    have w2 : IntKind.i64.wrap (yo * pb) = oh := by rw [hph']; exact IntWalk.i64_in _ (by omega)
    clear hpa hpb hm1 hm2 hpl' hph'
    go_enter Try.func29, Try.ntmps29
    go_wp2_with fail
    refine (HEN.out _ (Lib.hid (hG.out.below (by (repeat (first | (with_reducible refine Below.drew ?_) | (with_reducible refine below_drewN ?_ _) | (with_reducible refine Below.alloc ?_ (by first | omega | (simp; done) | (simp; omega) | (simp at *; omega)) _) | (with_reducible refine Below.setCell ?_ (by first | omega | (simp; done) | (simp; omega) | (simp at *; omega)) _) | (with_reducible exact Below.refl _ _) | (with_reducible assumption) | (with_reducible refine Below.trans ?_ (Below.mono (by assumption) (by first | omega | (simp; done) | (simp; omega) | (simp at *; omega))))))))) (Lib.hid (hD.out.below (by (repeat (first | (with_reducible refine Below.drew ?_) | (with_reducible refine below_drewN ?_ _) | (with_reducible refine Below.alloc ?_ (by first | omega | (simp; done) | (simp; omega) | (simp at *; omega)) _) | (with_reducible refine Below.setCell ?_ (by first | omega | (simp; done) | (simp; omega) | (simp at *; omega)) _) | (with_reducible exact Below.refl _ _) | (with_reducible assumption) | (with_reducible refine Below.trans ?_ (Below.mono (by assumption) (by first | omega | (simp; done) | (simp; omega) | (simp at *; omega)))))))))).mono ?_
    rintro e x1 ⟨rfl, hb1⟩
    have hc1 : Below w.heap.size w x1 := (((Below.refl _ _).alloc (by first | exact Nat.le_refl _ | (simp; done) | (simp; omega)) _).alloc (by first | exact Nat.le_refl _ | (simp; done) | (simp; omega)) _).trans (hb1.mono (by first | exact Nat.le_refl _ | (simp; done) | (simp; omega)))
    have hB1 : Below w.heap.size w x1 := hc1
    have zu1 := hB1.size
    have PB : Hid (BlkF x1 w.heap.size (w.heap.size) [.string nm, .int .i64 s, .slice A gn gc, .slice (some ⟨lb, lo, none⟩) dn dc]) := Lib.hid (((BlkF.made (B := w.heap.size) w [.string nm, .int .i64 s, .slice A gn gc, .slice (some ⟨lb, lo, none⟩) dn dc] 40 (by first | exact Nat.le_refl _ | (simp; done) | (simp; omega))).below ((Below.refl _ _).alloc (Nat.le_refl _) _)).below hb1)
    have zPB1 := PB.out.lt
    have RB : Hid (BlkF x1 w.heap.size (w.heap.size + 1) [.slice AT tn tc, .int .i64 r.a, .int .i64 r.b, .int .i64 r.nc, .int .i64 r.dn, .int .i64 r.br, .int .i64 r.em, .int .i64 r.pa, .int .i64 r.sc]) := Lib.hid (by have := (BlkF.made (B := w.heap.size) (w.alloc (.cells #[.string nm, .int .i64 s, .slice A gn gc, .slice (some ⟨lb, lo, none⟩) dn dc] 40)) [.slice AT tn tc, .int .i64 r.a, .int .i64 r.b, .int .i64 r.nc, .int .i64 r.dn, .int .i64 r.br, .int .i64 r.em, .int .i64 r.pa, .int .i64 r.sc] 26 (by first | exact Nat.le_refl _ | (simp; done) | (simp; omega))).below hb1; simpa using this)
    have zRB1 := RB.out.lt
    clear hb1
    obtain ⟨PB_1_0, PB_1_1, PB_1_2, PB_1_3⟩ := b4 PB.out
    have lPB_1 := PB.out.lt
    have nPB_1 : x1.heap.size ≠ w.heap.size := by omega
    have mPB_1 : w.heap.size ≠ x1.heap.size := by omega
    obtain ⟨RB_1_0, RB_1_1, RB_1_2, RB_1_3, RB_1_4, RB_1_5, RB_1_6, RB_1_7, RB_1_8⟩ := b9 RB.out
    have lRB_1 := RB.out.lt
    have nRB_1 : x1.heap.size ≠ w.heap.size + 1 := by omega
    have mRB_1 : w.heap.size + 1 ≠ x1.heap.size := by omega
    go_upto_region 2 with (fail)
    refine wp_worldE (fun u => Below x1.heap.size x1 u ∧ BlkF u w.heap.size (x1.heap.size) [.int .i64 yo, .int .i64 yh]) ⟨(Below.refl _ _).alloc (by first | exact Nat.le_refl _ | (simp; done) | (simp; omega)) _, BlkF.made (B := w.heap.size) x1 [.int .i64 yo, .int .i64 yh] 72 (by first | exact Nat.le_refl _ | exact hB1.size | (simp; done) | (simp; omega))⟩ (fun x2 hu2 => ?_)
    obtain ⟨hc2, qGB⟩ := hu2
    have GB := Lib.hid qGB
    clear qGB
    have hB2 : Below w.heap.size w x2 := hB1.trans (hc2.mono hB1.size)
    have zu2 := hB2.size
    replace PB := Lib.hid (PB.out.below hc2)
    replace RB := Lib.hid (RB.out.below hc2)
    clear PB_1_0 PB_1_1 PB_1_2 PB_1_3 lPB_1 nPB_1 mPB_1 RB_1_0 RB_1_1 RB_1_2 RB_1_3 RB_1_4 RB_1_5 RB_1_6 RB_1_7 RB_1_8 lRB_1 nRB_1 mRB_1
    clear hB1 zu1 hc1
    obtain ⟨PB_2_0, PB_2_1, PB_2_2, PB_2_3⟩ := b4 PB.out
    have lPB_2 := PB.out.lt
    have nPB_2 : x2.heap.size ≠ w.heap.size := by omega
    have mPB_2 : w.heap.size ≠ x2.heap.size := by omega
    obtain ⟨RB_2_0, RB_2_1, RB_2_2, RB_2_3, RB_2_4, RB_2_5, RB_2_6, RB_2_7, RB_2_8⟩ := b9 RB.out
    have lRB_2 := RB.out.lt
    have nRB_2 : x2.heap.size ≠ w.heap.size + 1 := by omega
    have mRB_2 : w.heap.size + 1 ≠ x2.heap.size := by omega
    obtain ⟨GB_2_0, GB_2_1⟩ := b2 GB.out
    have lGB_2 := GB.out.lt
    have nGB_2 : x2.heap.size ≠ x1.heap.size := by omega
    have mGB_2 : x1.heap.size ≠ x2.heap.size := by omega
    have HS : Hid (∀ y, Below x2.heap.size x2 y → y.cell? ⟨w.heap.size, 0, none⟩ = some (.string nm) ∧ y.cell? ⟨w.heap.size, 1, none⟩ = some (.int .i64 s) ∧ y.cell? ⟨w.heap.size, 2, none⟩ = some (.slice A gn gc) ∧ y.cell? ⟨w.heap.size, 3, none⟩ = some (.slice (some ⟨lb, lo, none⟩) dn dc) ∧ y.cell? ⟨w.heap.size + 1, 0, none⟩ = some (.slice AT tn tc) ∧ y.cell? ⟨w.heap.size + 1, 1, none⟩ = some (.int .i64 r.a) ∧ y.cell? ⟨w.heap.size + 1, 2, none⟩ = some (.int .i64 r.b) ∧ y.cell? ⟨w.heap.size + 1, 3, none⟩ = some (.int .i64 r.nc) ∧ y.cell? ⟨w.heap.size + 1, 4, none⟩ = some (.int .i64 r.dn) ∧ y.cell? ⟨w.heap.size + 1, 5, none⟩ = some (.int .i64 r.br) ∧ y.cell? ⟨w.heap.size + 1, 6, none⟩ = some (.int .i64 r.em) ∧ y.cell? ⟨w.heap.size + 1, 7, none⟩ = some (.int .i64 r.pa) ∧ y.cell? ⟨w.heap.size + 1, 8, none⟩ = some (.int .i64 r.sc) ∧ y.cell? ⟨x1.heap.size, 0, none⟩ = some (.int .i64 yo) ∧ y.cell? ⟨x1.heap.size, 1, none⟩ = some (.int .i64 yh)) := Lib.hid fun y hy => ⟨(hy.cell (p := ⟨w.heap.size, 0, none⟩) lPB_2).trans PB_2_0, (hy.cell (p := ⟨w.heap.size, 1, none⟩) lPB_2).trans PB_2_1, (hy.cell (p := ⟨w.heap.size, 2, none⟩) lPB_2).trans PB_2_2, (hy.cell (p := ⟨w.heap.size, 3, none⟩) lPB_2).trans PB_2_3, (hy.cell (p := ⟨w.heap.size + 1, 0, none⟩) lRB_2).trans RB_2_0, (hy.cell (p := ⟨w.heap.size + 1, 1, none⟩) lRB_2).trans RB_2_1, (hy.cell (p := ⟨w.heap.size + 1, 2, none⟩) lRB_2).trans RB_2_2, (hy.cell (p := ⟨w.heap.size + 1, 3, none⟩) lRB_2).trans RB_2_3, (hy.cell (p := ⟨w.heap.size + 1, 4, none⟩) lRB_2).trans RB_2_4, (hy.cell (p := ⟨w.heap.size + 1, 5, none⟩) lRB_2).trans RB_2_5, (hy.cell (p := ⟨w.heap.size + 1, 6, none⟩) lRB_2).trans RB_2_6, (hy.cell (p := ⟨w.heap.size + 1, 7, none⟩) lRB_2).trans RB_2_7, (hy.cell (p := ⟨w.heap.size + 1, 8, none⟩) lRB_2).trans RB_2_8, (hy.cell (p := ⟨x1.heap.size, 0, none⟩) lGB_2).trans GB_2_0, (hy.cell (p := ⟨x1.heap.size, 1, none⟩) lGB_2).trans GB_2_1⟩
    refine wp_region_held_drew (S := (fun w' => w'.cell? ⟨w.heap.size, 0, none⟩ = some (.string nm) ∧ w'.cell? ⟨w.heap.size, 1, none⟩ = some (.int .i64 s) ∧ w'.cell? ⟨w.heap.size, 2, none⟩ = some (.slice A gn gc) ∧ w'.cell? ⟨w.heap.size, 3, none⟩ = some (.slice (some ⟨lb, lo, none⟩) dn dc) ∧ w'.cell? ⟨w.heap.size + 1, 0, none⟩ = some (.slice AT tn tc) ∧ w'.cell? ⟨w.heap.size + 1, 1, none⟩ = some (.int .i64 r.a) ∧ w'.cell? ⟨w.heap.size + 1, 2, none⟩ = some (.int .i64 r.b) ∧ w'.cell? ⟨w.heap.size + 1, 3, none⟩ = some (.int .i64 r.nc) ∧ w'.cell? ⟨w.heap.size + 1, 4, none⟩ = some (.int .i64 r.dn) ∧ w'.cell? ⟨w.heap.size + 1, 5, none⟩ = some (.int .i64 r.br) ∧ w'.cell? ⟨w.heap.size + 1, 6, none⟩ = some (.int .i64 r.em) ∧ w'.cell? ⟨w.heap.size + 1, 7, none⟩ = some (.int .i64 r.pa) ∧ w'.cell? ⟨w.heap.size + 1, 8, none⟩ = some (.int .i64 r.sc) ∧ w'.cell? ⟨x1.heap.size, 0, none⟩ = some (.int .i64 yo) ∧ w'.cell? ⟨x1.heap.size, 1, none⟩ = some (.int .i64 yh))) (by kernel_rfl) (HS.out _ (Below.refl _ _).drew) (fun hHeld => ?_)
    have hT0 : Below x2.heap.size x2 x2.drew := (Below.refl _ _).drew
    generalize hdr : x2.drew = y2v0 at *
    clear hdr
    refine tkH 0 ⟨some 23, _, _, _, _, _⟩ ?_ rfl ?_ (by assumption) ?_
    rotate_left
    · (intro w hSw; (try dsimp only at hSw); go_simp; all_goals with_reducible rfl)
    try simp only [Act.put, sA, sB, sC]
    refine tkH 1 ⟨some 24, _, _, _, _, _⟩ ?_ rfl ?_ (by assumption) ?_
    rotate_left
    · (intro w hSw; (try dsimp only at hSw); go_simp; all_goals with_reducible rfl)
    try simp only [Act.put, sA, sB, sC]
    refine tkH 2 ⟨some 25, _, _, _, _, _⟩ ?_ rfl ?_ (by assumption) ?_
    rotate_left
    · (intro w hSw; (try dsimp only at hSw); go_simp; all_goals with_reducible rfl)
    try simp only [Act.put, sA, sB, sC]
    refine tkH 3 ⟨some 26, _, _, _, _, _⟩ ?_ rfl ?_ (by assumption) ?_
    rotate_left
    · (intro w hSw; (try dsimp only at hSw); go_simp; all_goals with_reducible rfl)
    try simp only [Act.put, sA, sB, sC]
    refine tkH 4 ⟨some 27, _, _, _, _, _⟩ ?_ rfl ?_ (by assumption) ?_
    rotate_left
    · (intro w hSw; (try dsimp only at hSw); go_simp; (try simp only [e1, e2]); all_goals with_reducible rfl)
    try simp only [Act.put, sA, sB, sC]
    refine tkH 5 ⟨some 28, _, _, _, _, _⟩ ?_ rfl ?_ (by assumption) ?_
    rotate_left
    · (intro w hSw; (try dsimp only at hSw); go_simp; all_goals with_reducible rfl)
    try simp only [Act.put, sA, sB, sC]
    refine tkH 6 ⟨some 29, _, _, _, _, _⟩ ?_ rfl ?_ (by assumption) ?_
    rotate_left
    · (intro w hSw; (try dsimp only at hSw); go_simp; all_goals with_reducible rfl)
    try simp only [Act.put, sA, sB, sC]
    refine tkH 7 ⟨some 30, _, _, _, _, _⟩ ?_ rfl ?_ (by assumption) ?_
    rotate_left
    · (intro w hSw; (try dsimp only at hSw); go_simp; all_goals with_reducible rfl)
    try simp only [Act.put, sA, sB, sC]
    refine tkH 8 ⟨some 31, _, _, _, _, _⟩ ?_ rfl ?_ (by assumption) ?_
    rotate_left
    · (intro w hSw; (try dsimp only at hSw); go_simp; all_goals with_reducible rfl)
    try simp only [Act.put, sA, sB, sC]
    refine tkH 9 ⟨some 32, _, _, _, _, _⟩ ?_ rfl ?_ (by assumption) ?_
    rotate_left
    · (intro w hSw; (try dsimp only at hSw); go_simp; all_goals with_reducible rfl)
    try simp only [Act.put, sA, sB, sC]
    refine tkH 10 ⟨some 33, _, _, _, _, _⟩ ?_ rfl ?_ (by assumption) ?_
    rotate_left
    · (intro w hSw; (try dsimp only at hSw); go_simp; (try simp only [e1, e2]); all_goals with_reducible rfl)
    try simp only [Act.put, sA, sB, sC]
    refine tkH 11 ⟨some 34, _, _, _, _, _⟩ ?_ rfl ?_ (by assumption) ?_
    rotate_left
    · (intro w hSw; (try dsimp only at hSw); go_simp; all_goals with_reducible rfl)
    try simp only [Act.put, sA, sB, sC]
    refine tkH 12 ⟨some 10, _, _, _, _, _⟩ ?_ rfl ?_ (by assumption) ?_
    rotate_left
    · (intro w hSw; (try dsimp only at hSw); go_simp; all_goals with_reducible rfl)
    try simp only [Act.put, sA, sB, sC]
    refine tkH 13 ⟨some 11, _, _, _, _, _⟩ ?_ rfl ?_ (by assumption) ?_
    rotate_left
    · (intro w hSw; (try dsimp only at hSw); go_simp; all_goals with_reducible rfl)
    try simp only [Act.put, sA, sB, sC]
    refine wpAnyH_done (by kernel_rfl) ?_ _
    have hc3 : Below x2.heap.size x2 y2v0 := hT0
    have hB3 : Below w.heap.size w y2v0 := hB2.trans (hc3.mono hB2.size)
    have zu3 := hB3.size
    replace PB := Lib.hid (PB.out.below hc3)
    replace RB := Lib.hid (RB.out.below hc3)
    replace GB := Lib.hid (GB.out.below hc3)
    clear PB_2_0 PB_2_1 PB_2_2 PB_2_3 lPB_2 nPB_2 mPB_2 RB_2_0 RB_2_1 RB_2_2 RB_2_3 RB_2_4 RB_2_5 RB_2_6 RB_2_7 RB_2_8 lRB_2 nRB_2 mRB_2 GB_2_0 GB_2_1 lGB_2 nGB_2 mGB_2
    clear HS hHeld hT0 hB2 zu2 hc2
    obtain ⟨PB_3_0, PB_3_1, PB_3_2, PB_3_3⟩ := b4 PB.out
    have lPB_3 := PB.out.lt
    have nPB_3 : y2v0.heap.size ≠ w.heap.size := by omega
    have mPB_3 : w.heap.size ≠ y2v0.heap.size := by omega
    obtain ⟨RB_3_0, RB_3_1, RB_3_2, RB_3_3, RB_3_4, RB_3_5, RB_3_6, RB_3_7, RB_3_8⟩ := b9 RB.out
    have lRB_3 := RB.out.lt
    have nRB_3 : y2v0.heap.size ≠ w.heap.size + 1 := by omega
    have mRB_3 : w.heap.size + 1 ≠ y2v0.heap.size := by omega
    obtain ⟨GB_3_0, GB_3_1⟩ := b2 GB.out
    have lGB_3 := GB.out.lt
    have nGB_3 : y2v0.heap.size ≠ x1.heap.size := by omega
    have mGB_3 : x1.heap.size ≠ y2v0.heap.size := by omega
    by_cases hlh : ol = oh
    · rw [if_pos hlh] at hq1
      obtain ⟨rv, hrv⟩ : ∃ z, Hid (rateV T ol = z) := ⟨_, Lib.hid rfl⟩
      have rb : 0 ≤ rv ∧ rv ≤ 100000 := by have := rateG_bd hox.out ol T.length (Nat.le_refl _); rw [← hrv.out]; exact this
      rw [hrv.out] at hq1
      have HQ := Lib.hid hq1
      have pb := mul_bd (show 0 ≤ s9 by omega) hs2 rb.1 rb.2
      have w3 : IntKind.i64.wrap (s9 * rv) = s9 * rv := IntWalk.i64_in _ (by omega)
      have w3' : IntKind.i64.wrap (s9 * rv) = q := by rw [w3]; exact HQ.out
      have e3 : (ol == oh) = true := by simpa using hlh
      clear hq1 pb w3
      subst hlh
      have f0a := (hB3.cell (p := ⟨lb, lo + kk * 3, none⟩) hll).trans f0
      have lla : lb < y2v0.heap.size := Nat.lt_of_lt_of_le hll hB3.size
      go_upto_region 4 with (fail)
      have HS : Hid (∀ y, Below y2v0.heap.size y2v0 y → y.cell? ⟨w.heap.size, 0, none⟩ = some (.string nm) ∧ y.cell? ⟨w.heap.size, 1, none⟩ = some (.int .i64 s) ∧ y.cell? ⟨w.heap.size, 2, none⟩ = some (.slice A gn gc) ∧ y.cell? ⟨w.heap.size, 3, none⟩ = some (.slice (some ⟨lb, lo, none⟩) dn dc) ∧ y.cell? ⟨w.heap.size + 1, 0, none⟩ = some (.slice AT tn tc) ∧ y.cell? ⟨w.heap.size + 1, 1, none⟩ = some (.int .i64 r.a) ∧ y.cell? ⟨w.heap.size + 1, 2, none⟩ = some (.int .i64 r.b) ∧ y.cell? ⟨w.heap.size + 1, 3, none⟩ = some (.int .i64 r.nc) ∧ y.cell? ⟨w.heap.size + 1, 4, none⟩ = some (.int .i64 r.dn) ∧ y.cell? ⟨w.heap.size + 1, 5, none⟩ = some (.int .i64 r.br) ∧ y.cell? ⟨w.heap.size + 1, 6, none⟩ = some (.int .i64 r.em) ∧ y.cell? ⟨w.heap.size + 1, 7, none⟩ = some (.int .i64 r.pa) ∧ y.cell? ⟨w.heap.size + 1, 8, none⟩ = some (.int .i64 r.sc) ∧ y.cell? ⟨x1.heap.size, 0, none⟩ = some (.int .i64 yo) ∧ y.cell? ⟨x1.heap.size, 1, none⟩ = some (.int .i64 yh) ∧ y.cell? ⟨lb, lo + kk * 3, none⟩ = some (.int .i64 s9)) := Lib.hid fun y hy => ⟨(hy.cell (p := ⟨w.heap.size, 0, none⟩) lPB_3).trans PB_3_0, (hy.cell (p := ⟨w.heap.size, 1, none⟩) lPB_3).trans PB_3_1, (hy.cell (p := ⟨w.heap.size, 2, none⟩) lPB_3).trans PB_3_2, (hy.cell (p := ⟨w.heap.size, 3, none⟩) lPB_3).trans PB_3_3, (hy.cell (p := ⟨w.heap.size + 1, 0, none⟩) lRB_3).trans RB_3_0, (hy.cell (p := ⟨w.heap.size + 1, 1, none⟩) lRB_3).trans RB_3_1, (hy.cell (p := ⟨w.heap.size + 1, 2, none⟩) lRB_3).trans RB_3_2, (hy.cell (p := ⟨w.heap.size + 1, 3, none⟩) lRB_3).trans RB_3_3, (hy.cell (p := ⟨w.heap.size + 1, 4, none⟩) lRB_3).trans RB_3_4, (hy.cell (p := ⟨w.heap.size + 1, 5, none⟩) lRB_3).trans RB_3_5, (hy.cell (p := ⟨w.heap.size + 1, 6, none⟩) lRB_3).trans RB_3_6, (hy.cell (p := ⟨w.heap.size + 1, 7, none⟩) lRB_3).trans RB_3_7, (hy.cell (p := ⟨w.heap.size + 1, 8, none⟩) lRB_3).trans RB_3_8, (hy.cell (p := ⟨x1.heap.size, 0, none⟩) lGB_3).trans GB_3_0, (hy.cell (p := ⟨x1.heap.size, 1, none⟩) lGB_3).trans GB_3_1, (hy.cell (p := ⟨lb, lo + kk * 3, none⟩) lla).trans f0a⟩
      refine wp_region_held_drew (S := (fun w' => w'.cell? ⟨w.heap.size, 0, none⟩ = some (.string nm) ∧ w'.cell? ⟨w.heap.size, 1, none⟩ = some (.int .i64 s) ∧ w'.cell? ⟨w.heap.size, 2, none⟩ = some (.slice A gn gc) ∧ w'.cell? ⟨w.heap.size, 3, none⟩ = some (.slice (some ⟨lb, lo, none⟩) dn dc) ∧ w'.cell? ⟨w.heap.size + 1, 0, none⟩ = some (.slice AT tn tc) ∧ w'.cell? ⟨w.heap.size + 1, 1, none⟩ = some (.int .i64 r.a) ∧ w'.cell? ⟨w.heap.size + 1, 2, none⟩ = some (.int .i64 r.b) ∧ w'.cell? ⟨w.heap.size + 1, 3, none⟩ = some (.int .i64 r.nc) ∧ w'.cell? ⟨w.heap.size + 1, 4, none⟩ = some (.int .i64 r.dn) ∧ w'.cell? ⟨w.heap.size + 1, 5, none⟩ = some (.int .i64 r.br) ∧ w'.cell? ⟨w.heap.size + 1, 6, none⟩ = some (.int .i64 r.em) ∧ w'.cell? ⟨w.heap.size + 1, 7, none⟩ = some (.int .i64 r.pa) ∧ w'.cell? ⟨w.heap.size + 1, 8, none⟩ = some (.int .i64 r.sc) ∧ w'.cell? ⟨x1.heap.size, 0, none⟩ = some (.int .i64 yo) ∧ w'.cell? ⟨x1.heap.size, 1, none⟩ = some (.int .i64 yh) ∧ w'.cell? ⟨lb, lo + kk * 3, none⟩ = some (.int .i64 s9))) (by kernel_rfl) (HS.out _ (Below.refl _ _).drew) (fun hHeld => ?_)
      have hT0 : Below y2v0.heap.size y2v0 y2v0.drew := (Below.refl _ _).drew
      generalize hdr : y2v0.drew = y3v0 at *
      clear hdr
      refine tkH 0 ⟨some 38, _, _, _, _, _⟩ ?_ rfl ?_ (by assumption) ?_
      rotate_left
      · (intro w hSw; (try dsimp only at hSw); go_simp; all_goals with_reducible rfl)
      try simp only [Act.put, sA, sB, sC]
      refine tkH 1 ⟨some 39, _, _, _, _, _⟩ ?_ rfl ?_ (by assumption) ?_
      rotate_left
      · (intro w hSw; (try dsimp only at hSw); go_simp; all_goals with_reducible rfl)
      try simp only [Act.put, sA, sB, sC]
      refine tkH 2 ⟨some 40, _, _, _, _, _⟩ ?_ rfl ?_ (by assumption) ?_
      rotate_left
      · (intro w hSw; (try dsimp only at hSw); go_simp; all_goals with_reducible rfl)
      try simp only [Act.put, sA, sB, sC]
      refine tkH 3 ⟨some 41, _, _, _, _, _⟩ ?_ rfl ?_ (by assumption) ?_
      rotate_left
      · (intro w hSw; (try dsimp only at hSw); go_simp; all_goals with_reducible rfl)
      try simp only [Act.put, sA, sB, sC]
      refine tkH 4 ⟨some 42, _, _, _, _, _⟩ ?_ rfl ?_ (by assumption) ?_
      rotate_left
      · (intro w hSw; (try dsimp only at hSw); go_simp; all_goals with_reducible rfl)
      try simp only [Act.put, sA, sB, sC]
      refine tkH 5 ⟨some 43, _, _, _, _, _⟩ ?_ rfl ?_ (by assumption) ?_
      rotate_left
      · (intro w hSw; (try dsimp only at hSw); go_simp; all_goals with_reducible rfl)
      try simp only [Act.put, sA, sB, sC]
      refine tkH 6 ⟨some 44, _, _, _, _, _⟩ ?_ rfl ?_ (by assumption) ?_
      rotate_left
      · (intro w hSw; (try dsimp only at hSw); go_simp; all_goals with_reducible rfl)
      try simp only [Act.put, sA, sB, sC]
      refine tkH 7 ⟨some 45, _, _, _, _, _⟩ ?_ rfl ?_ (by assumption) ?_
      rotate_left
      · (intro w hSw; (try dsimp only at hSw); go_simp; all_goals with_reducible rfl)
      try simp only [Act.put, sA, sB, sC]
      refine wpAnyH_ready (rs := [8]) (by kernel_rfl) (by simp) ?_
      refine AllReadyH.cons rfl (fun K hK => ?_) (AllReadyH.nil)
      go_simp
      refine (refRate_is T r AT tn tc ol rv _ htn (Lib.hid (hT.out.below (hB3.trans (hT0.mono hB3.size)))) hox hrv).mono ?_
      rintro e y3v1 ⟨rfl, hby3v0⟩
      have hT1 : Below y2v0.heap.size y2v0 y3v1 := hT0.trans (hby3v0.mono hT0.size)
      clear hby3v0
      go_wp2_with fail
      refine hK.out _ _ (HS.out _ hT1) (fun hHeld => ?_)
      clear hK K
      try simp only [Act.put, sA, sB, sC]
      refine tkH 9 ⟨some 47, _, _, _, _, _⟩ ?_ rfl ?_ (by assumption) ?_
      rotate_left
      · (intro w hSw; (try dsimp only at hSw); go_simp; all_goals with_reducible rfl)
      try simp only [Act.put, sA, sB, sC]
      refine tkH 10 ⟨some 6, _, _, _, _, _⟩ ?_ rfl ?_ (by assumption) ?_
      rotate_left
      · (intro w hSw; (try dsimp only at hSw); go_simp; all_goals with_reducible rfl)
      try simp only [Act.put, sA, sB, sC]
      refine wpAnyH_done (by kernel_rfl) ?_ _
      have hc4 : Below y2v0.heap.size y2v0 y3v1 := hT1
      have hB4 : Below w.heap.size w y3v1 := hB3.trans (hc4.mono hB3.size)
      have zu4 := hB4.size
      replace PB := Lib.hid (PB.out.below hc4)
      replace RB := Lib.hid (RB.out.below hc4)
      replace GB := Lib.hid (GB.out.below hc4)
      clear PB_3_0 PB_3_1 PB_3_2 PB_3_3 lPB_3 nPB_3 mPB_3 RB_3_0 RB_3_1 RB_3_2 RB_3_3 RB_3_4 RB_3_5 RB_3_6 RB_3_7 RB_3_8 lRB_3 nRB_3 mRB_3 GB_3_0 GB_3_1 lGB_3 nGB_3 mGB_3
      clear HS hHeld hT0 hT1 hB3 zu3 hc3
      obtain ⟨PB_4_0, PB_4_1, PB_4_2, PB_4_3⟩ := b4 PB.out
      have lPB_4 := PB.out.lt
      have nPB_4 : y3v1.heap.size ≠ w.heap.size := by omega
      have mPB_4 : w.heap.size ≠ y3v1.heap.size := by omega
      obtain ⟨RB_4_0, RB_4_1, RB_4_2, RB_4_3, RB_4_4, RB_4_5, RB_4_6, RB_4_7, RB_4_8⟩ := b9 RB.out
      have lRB_4 := RB.out.lt
      have nRB_4 : y3v1.heap.size ≠ w.heap.size + 1 := by omega
      have mRB_4 : w.heap.size + 1 ≠ y3v1.heap.size := by omega
      obtain ⟨GB_4_0, GB_4_1⟩ := b2 GB.out
      have lGB_4 := GB.out.lt
      have nGB_4 : y3v1.heap.size ≠ x1.heap.size := by omega
      have mGB_4 : x1.heap.size ≠ y3v1.heap.size := by omega
      go_wp2
      go_ret
      exact ⟨rfl, hB4⟩
    · rw [if_neg hlh] at hq1
      have HQ := Lib.hid hq1
      have e3 : (ol == oh) = false := by simpa using hlh
      have ZB0 := Lib.hid hB3
      clear hq1
      go_wp2
      go_loopw [12, 13] (fun v i wr => ∃ (k : Nat) (z : Int), k ≤ tn ∧ i = .int .i64 k ∧ v = .int .i64 z ∧ Hid (clkS T ol oh k = z) ∧ Hid (BlkF wr w.heap.size w.heap.size [.string nm, .int .i64 s, .slice A gn gc, .slice (some ⟨lb, lo, none⟩) dn dc]) ∧ Hid (BlkF wr w.heap.size (w.heap.size + 1) [.slice AT tn tc, .int .i64 r.a, .int .i64 r.b, .int .i64 r.nc, .int .i64 r.dn, .int .i64 r.br, .int .i64 r.em, .int .i64 r.pa, .int .i64 r.sc]) ∧ Hid (Below w.heap.size w wr)) (fun _ i _ => tn - (intOf i).toNat)
      case atStart => exact ⟨0, 0, by omega, rfl, rfl, Lib.hid rfl, PB, RB, ZB0⟩
      case round =>
        clear PB_3_0 PB_3_1 PB_3_2 PB_3_3 lPB_3 nPB_3 mPB_3 RB_3_0 RB_3_1 RB_3_2 RB_3_3 RB_3_4 RB_3_5 RB_3_6 RB_3_7 RB_3_8 lRB_3 nRB_3 mRB_3 GB_3_0 GB_3_1 lGB_3 nGB_3 mGB_3 PB RB GB ZB0 hB3 zu3 hc3
        obtain ⟨k, z, hk', rfl, rfl, hz, HP, HR, ZB⟩ := hrel
        obtain ⟨c0, c1, c2, c3⟩ := b4 HP.out
        obtain ⟨r0, r1, r2, r3, r4, r5, r6, r7, r8⟩ := b9 HR.out
        have hl0 := HP.out.lt
        have hl1 := HR.out.lt
        have zb := clkS_max hox.out b0 b1 b2' (k := k) (by have := htn.out; omega)
        rw [hz.out] at zb
        by_cases hkn : k < tn
        · have kn : (k : Int) < (tn : Int) := by omega
          have k00 : ¬ (k : Int) < 0 := by omega
          have hkT : k < T.length := by have := htn.out; omega
          have bk := hox.out.at' hkT
          obtain ⟨b, o, rfl, hlt, hR⟩ := (hT.out.below ZB.out).at' hkT
          obtain ⟨g0, g1⟩ := ox_at hR hkT
          obtain ⟨fr, hfr⟩ : ∃ z, Hid (T[k].f = z) := ⟨_, Lib.hid rfl⟩
          obtain ⟨rt, hrt⟩ : ∃ z, Hid (T[k].r = z) := ⟨_, Lib.hid rfl⟩
          rw [hfr.out] at g0
          rw [hrt.out] at g1
          rw [hfr.out, hrt.out] at bk
          obtain ⟨m9, hm9⟩ : ∃ z, Hid (1000 * fr = z) := ⟨_, Lib.hid rfl⟩
          have hw1 : IntKind.i64.wrap (1000 * fr) = m9 := by rw [IntWalk.i64_in _ (by omega)]; exact hm9.out
          have m0 : 0 ≤ m9 ∧ m9 ≤ 4000000 := by have := hm9.out; omega
          have hwk : IntKind.i64.wrap ((k : Int) + 1) = (k : Int) + 1 := IntWalk.i64_in _ (by omega)
          have hW : Hid (clkW T ol oh k = max 0 ((if k + 1 < T.length then min oh (1000 * (T.getD (k + 1) default).f) else oh) - max ol m9)) := Lib.hid (by unfold clkW; rw [getD_at hkT, hfr.out, hm9.out])
          have hS : Hid (clkS T ol oh (k + 1) = z + rt * clkW T ol oh k) := Lib.hid (by show clkS T ol oh k + (T.getD k default).r * clkW T ol oh k = _; rw [hz.out, getD_at hkT, hrt.out])
          by_cases hk1 : k + 1 < tn
          · have k1n : (k : Int) + 1 < (tn : Int) := by omega
            have hk1T : k + 1 < T.length := by have := htn.out; omega
            have bn := hox.out.at' hk1T
            have n0 := (ox_at hR hk1T).1
            obtain ⟨nf, hnf⟩ : ∃ z, Hid (T[k + 1].f = z) := ⟨_, Lib.hid rfl⟩
            rw [hnf.out] at n0 bn
            obtain ⟨n9, hn9⟩ : ∃ z, Hid (1000 * nf = z) := ⟨_, Lib.hid rfl⟩
            have hw2 : IntKind.i64.wrap (1000 * nf) = n9 := by rw [IntWalk.i64_in _ (by omega)]; exact hn9.out
            have nb : 0 ≤ n9 ∧ n9 ≤ 4000000 := by have := hn9.out; omega
            have hW2 : Hid (clkW T ol oh k = max 0 (min oh n9 - max ol m9)) := Lib.hid (by rw [hW.out, if_pos hk1T, getD_at hk1T, hnf.out, hn9.out])
            have k10 : ¬ (k : Int) + 1 < 0 := by omega
            by_cases i1 : n9 < oh
            · skip
              by_cases i2 : ol < m9
              · skip
                skip
                obtain ⟨d9, hd9⟩ : ∃ z, Hid (n9 - m9 = z) := ⟨_, Lib.hid rfl⟩
                have hw3 : IntKind.i64.wrap (n9 - m9) = d9 := by rw [IntWalk.i64_in _ (by omega)]; exact hd9.out
                by_cases i3 : 0 < d9
                · skip
                  have hWv : Hid (clkW T ol oh k = d9) := Lib.hid (by rw [hW2.out]; have := hd9.out; omega)
                  have wb := clkW_bd hox.out b0 b1 k
                  rw [hWv.out] at wb
                  have pb := mul_bd bk.2.2.1 bk.2.2.2 wb.1 (show d9 ≤ 31100000 by omega)
                  obtain ⟨p9, hp9⟩ : ∃ z, Hid (rt * d9 = z) := ⟨_, Lib.hid rfl⟩
                  rw [hp9.out] at pb
                  have hw4 : IntKind.i64.wrap (rt * d9) = p9 := by rw [IntWalk.i64_in _ (by rw [hp9.out]; omega)]; exact hp9.out
                  obtain ⟨t9, ht9⟩ : ∃ y, Hid (z + p9 = y) := ⟨_, Lib.hid rfl⟩
                  have hw5 : IntKind.i64.wrap (z + p9) = t9 := by rw [IntWalk.i64_in _ (by omega)]; exact ht9.out
                  have hN : Hid (clkS T ol oh (k + 1) = t9) := Lib.hid (by rw [hS.out, hWv.out, hp9.out, ht9.out])
                  clear pb wb
                  clear hS hW hW2 hWv hR
                  go_wp2
                  go_roundw
                  case rel => exact ⟨k + 1, t9, by omega, by go_num, rfl, hN, HP, HR, ZB⟩
                  case measure => simp [intOf]; omega
                · skip
                  have hWv : Hid (clkW T ol oh k = 0) := Lib.hid (by rw [hW2.out]; have := hd9.out; omega)
                  have hw5 : IntKind.i64.wrap z = z := IntWalk.i64_in _ (by omega)
                  have hN : Hid (clkS T ol oh (k + 1) = z) := Lib.hid (by rw [hS.out, hWv.out]; omega)
                  clear hS hW hW2 hWv hR
                  go_wp2
                  go_roundw
                  case rel => exact ⟨k + 1, z, by omega, by go_num, rfl, hN, HP, HR, ZB⟩
                  case measure => simp [intOf]; omega
              · skip
                skip
                obtain ⟨d9, hd9⟩ : ∃ z, Hid (n9 - ol = z) := ⟨_, Lib.hid rfl⟩
                have hw3 : IntKind.i64.wrap (n9 - ol) = d9 := by rw [IntWalk.i64_in _ (by omega)]; exact hd9.out
                by_cases i3 : 0 < d9
                · skip
                  have hWv : Hid (clkW T ol oh k = d9) := Lib.hid (by rw [hW2.out]; have := hd9.out; omega)
                  have wb := clkW_bd hox.out b0 b1 k
                  rw [hWv.out] at wb
                  have pb := mul_bd bk.2.2.1 bk.2.2.2 wb.1 (show d9 ≤ 31100000 by omega)
                  obtain ⟨p9, hp9⟩ : ∃ z, Hid (rt * d9 = z) := ⟨_, Lib.hid rfl⟩
                  rw [hp9.out] at pb
                  have hw4 : IntKind.i64.wrap (rt * d9) = p9 := by rw [IntWalk.i64_in _ (by rw [hp9.out]; omega)]; exact hp9.out
                  obtain ⟨t9, ht9⟩ : ∃ y, Hid (z + p9 = y) := ⟨_, Lib.hid rfl⟩
                  have hw5 : IntKind.i64.wrap (z + p9) = t9 := by rw [IntWalk.i64_in _ (by omega)]; exact ht9.out
                  have hN : Hid (clkS T ol oh (k + 1) = t9) := Lib.hid (by rw [hS.out, hWv.out, hp9.out, ht9.out])
                  clear pb wb
                  clear hS hW hW2 hWv hR
                  go_wp2
                  go_roundw
                  case rel => exact ⟨k + 1, t9, by omega, by go_num, rfl, hN, HP, HR, ZB⟩
                  case measure => simp [intOf]; omega
                · skip
                  have hWv : Hid (clkW T ol oh k = 0) := Lib.hid (by rw [hW2.out]; have := hd9.out; omega)
                  have hw5 : IntKind.i64.wrap z = z := IntWalk.i64_in _ (by omega)
                  have hN : Hid (clkS T ol oh (k + 1) = z) := Lib.hid (by rw [hS.out, hWv.out]; omega)
                  clear hS hW hW2 hWv hR
                  go_wp2
                  go_roundw
                  case rel => exact ⟨k + 1, z, by omega, by go_num, rfl, hN, HP, HR, ZB⟩
                  case measure => simp [intOf]; omega
            · skip
              by_cases i2 : ol < m9
              · skip
                skip
                obtain ⟨d9, hd9⟩ : ∃ z, Hid (oh - m9 = z) := ⟨_, Lib.hid rfl⟩
                have hw3 : IntKind.i64.wrap (oh - m9) = d9 := by rw [IntWalk.i64_in _ (by omega)]; exact hd9.out
                by_cases i3 : 0 < d9
                · skip
                  have hWv : Hid (clkW T ol oh k = d9) := Lib.hid (by rw [hW2.out]; have := hd9.out; omega)
                  have wb := clkW_bd hox.out b0 b1 k
                  rw [hWv.out] at wb
                  have pb := mul_bd bk.2.2.1 bk.2.2.2 wb.1 (show d9 ≤ 31100000 by omega)
                  obtain ⟨p9, hp9⟩ : ∃ z, Hid (rt * d9 = z) := ⟨_, Lib.hid rfl⟩
                  rw [hp9.out] at pb
                  have hw4 : IntKind.i64.wrap (rt * d9) = p9 := by rw [IntWalk.i64_in _ (by rw [hp9.out]; omega)]; exact hp9.out
                  obtain ⟨t9, ht9⟩ : ∃ y, Hid (z + p9 = y) := ⟨_, Lib.hid rfl⟩
                  have hw5 : IntKind.i64.wrap (z + p9) = t9 := by rw [IntWalk.i64_in _ (by omega)]; exact ht9.out
                  have hN : Hid (clkS T ol oh (k + 1) = t9) := Lib.hid (by rw [hS.out, hWv.out, hp9.out, ht9.out])
                  clear pb wb
                  clear hS hW hW2 hWv hR
                  go_wp2
                  go_roundw
                  case rel => exact ⟨k + 1, t9, by omega, by go_num, rfl, hN, HP, HR, ZB⟩
                  case measure => simp [intOf]; omega
                · skip
                  have hWv : Hid (clkW T ol oh k = 0) := Lib.hid (by rw [hW2.out]; have := hd9.out; omega)
                  have hw5 : IntKind.i64.wrap z = z := IntWalk.i64_in _ (by omega)
                  have hN : Hid (clkS T ol oh (k + 1) = z) := Lib.hid (by rw [hS.out, hWv.out]; omega)
                  clear hS hW hW2 hWv hR
                  go_wp2
                  go_roundw
                  case rel => exact ⟨k + 1, z, by omega, by go_num, rfl, hN, HP, HR, ZB⟩
                  case measure => simp [intOf]; omega
              · skip
                skip
                obtain ⟨d9, hd9⟩ : ∃ z, Hid (oh - ol = z) := ⟨_, Lib.hid rfl⟩
                have hw3 : IntKind.i64.wrap (oh - ol) = d9 := by rw [IntWalk.i64_in _ (by omega)]; exact hd9.out
                by_cases i3 : 0 < d9
                · skip
                  have hWv : Hid (clkW T ol oh k = d9) := Lib.hid (by rw [hW2.out]; have := hd9.out; omega)
                  have wb := clkW_bd hox.out b0 b1 k
                  rw [hWv.out] at wb
                  have pb := mul_bd bk.2.2.1 bk.2.2.2 wb.1 (show d9 ≤ 31100000 by omega)
                  obtain ⟨p9, hp9⟩ : ∃ z, Hid (rt * d9 = z) := ⟨_, Lib.hid rfl⟩
                  rw [hp9.out] at pb
                  have hw4 : IntKind.i64.wrap (rt * d9) = p9 := by rw [IntWalk.i64_in _ (by rw [hp9.out]; omega)]; exact hp9.out
                  obtain ⟨t9, ht9⟩ : ∃ y, Hid (z + p9 = y) := ⟨_, Lib.hid rfl⟩
                  have hw5 : IntKind.i64.wrap (z + p9) = t9 := by rw [IntWalk.i64_in _ (by omega)]; exact ht9.out
                  have hN : Hid (clkS T ol oh (k + 1) = t9) := Lib.hid (by rw [hS.out, hWv.out, hp9.out, ht9.out])
                  clear pb wb
                  clear hS hW hW2 hWv hR
                  go_wp2
                  go_roundw
                  case rel => exact ⟨k + 1, t9, by omega, by go_num, rfl, hN, HP, HR, ZB⟩
                  case measure => simp [intOf]; omega
                · skip
                  have hWv : Hid (clkW T ol oh k = 0) := Lib.hid (by rw [hW2.out]; have := hd9.out; omega)
                  have hw5 : IntKind.i64.wrap z = z := IntWalk.i64_in _ (by omega)
                  have hN : Hid (clkS T ol oh (k + 1) = z) := Lib.hid (by rw [hS.out, hWv.out]; omega)
                  clear hS hW hW2 hWv hR
                  go_wp2
                  go_roundw
                  case rel => exact ⟨k + 1, z, by omega, by go_num, rfl, hN, HP, HR, ZB⟩
                  case measure => simp [intOf]; omega
          · have k1n : ¬ (k : Int) + 1 < (tn : Int) := by omega
            have hW2 : Hid (clkW T ol oh k = max 0 (oh - max ol m9)) := Lib.hid (by rw [hW.out, if_neg (by have := htn.out; omega)])
            by_cases i2 : ol < m9
            · skip
              skip
              obtain ⟨d9, hd9⟩ : ∃ z, Hid (oh - m9 = z) := ⟨_, Lib.hid rfl⟩
              have hw3 : IntKind.i64.wrap (oh - m9) = d9 := by rw [IntWalk.i64_in _ (by omega)]; exact hd9.out
              by_cases i3 : 0 < d9
              · skip
                have hWv : Hid (clkW T ol oh k = d9) := Lib.hid (by rw [hW2.out]; have := hd9.out; omega)
                have wb := clkW_bd hox.out b0 b1 k
                rw [hWv.out] at wb
                have pb := mul_bd bk.2.2.1 bk.2.2.2 wb.1 (show d9 ≤ 31100000 by omega)
                obtain ⟨p9, hp9⟩ : ∃ z, Hid (rt * d9 = z) := ⟨_, Lib.hid rfl⟩
                rw [hp9.out] at pb
                have hw4 : IntKind.i64.wrap (rt * d9) = p9 := by rw [IntWalk.i64_in _ (by rw [hp9.out]; omega)]; exact hp9.out
                obtain ⟨t9, ht9⟩ : ∃ y, Hid (z + p9 = y) := ⟨_, Lib.hid rfl⟩
                have hw5 : IntKind.i64.wrap (z + p9) = t9 := by rw [IntWalk.i64_in _ (by omega)]; exact ht9.out
                have hN : Hid (clkS T ol oh (k + 1) = t9) := Lib.hid (by rw [hS.out, hWv.out, hp9.out, ht9.out])
                clear pb wb
                clear hS hW hW2 hWv hR
                go_wp2
                go_roundw
                case rel => exact ⟨k + 1, t9, by omega, by go_num, rfl, hN, HP, HR, ZB⟩
                case measure => simp [intOf]; omega
              · skip
                have hWv : Hid (clkW T ol oh k = 0) := Lib.hid (by rw [hW2.out]; have := hd9.out; omega)
                have hw5 : IntKind.i64.wrap z = z := IntWalk.i64_in _ (by omega)
                have hN : Hid (clkS T ol oh (k + 1) = z) := Lib.hid (by rw [hS.out, hWv.out]; omega)
                clear hS hW hW2 hWv hR
                go_wp2
                go_roundw
                case rel => exact ⟨k + 1, z, by omega, by go_num, rfl, hN, HP, HR, ZB⟩
                case measure => simp [intOf]; omega
            · skip
              skip
              obtain ⟨d9, hd9⟩ : ∃ z, Hid (oh - ol = z) := ⟨_, Lib.hid rfl⟩
              have hw3 : IntKind.i64.wrap (oh - ol) = d9 := by rw [IntWalk.i64_in _ (by omega)]; exact hd9.out
              by_cases i3 : 0 < d9
              · skip
                have hWv : Hid (clkW T ol oh k = d9) := Lib.hid (by rw [hW2.out]; have := hd9.out; omega)
                have wb := clkW_bd hox.out b0 b1 k
                rw [hWv.out] at wb
                have pb := mul_bd bk.2.2.1 bk.2.2.2 wb.1 (show d9 ≤ 31100000 by omega)
                obtain ⟨p9, hp9⟩ : ∃ z, Hid (rt * d9 = z) := ⟨_, Lib.hid rfl⟩
                rw [hp9.out] at pb
                have hw4 : IntKind.i64.wrap (rt * d9) = p9 := by rw [IntWalk.i64_in _ (by rw [hp9.out]; omega)]; exact hp9.out
                obtain ⟨t9, ht9⟩ : ∃ y, Hid (z + p9 = y) := ⟨_, Lib.hid rfl⟩
                have hw5 : IntKind.i64.wrap (z + p9) = t9 := by rw [IntWalk.i64_in _ (by omega)]; exact ht9.out
                have hN : Hid (clkS T ol oh (k + 1) = t9) := Lib.hid (by rw [hS.out, hWv.out, hp9.out, ht9.out])
                clear pb wb
                clear hS hW hW2 hWv hR
                go_wp2
                go_roundw
                case rel => exact ⟨k + 1, t9, by omega, by go_num, rfl, hN, HP, HR, ZB⟩
                case measure => simp [intOf]; omega
              · skip
                have hWv : Hid (clkW T ol oh k = 0) := Lib.hid (by rw [hW2.out]; have := hd9.out; omega)
                have hw5 : IntKind.i64.wrap z = z := IntWalk.i64_in _ (by omega)
                have hN : Hid (clkS T ol oh (k + 1) = z) := Lib.hid (by rw [hS.out, hWv.out]; omega)
                clear hS hW hW2 hWv hR
                go_wp2
                go_roundw
                case rel => exact ⟨k + 1, z, by omega, by go_num, rfl, hN, HP, HR, ZB⟩
                case measure => simp [intOf]; omega
        · have kn : ¬ (k : Int) < (tn : Int) := by omega
          have hkl : k = T.length := by have := htn.out; omega
          have HQ2 : Hid (upE (s9 * z) (oh - ol) = q) := Lib.hid (by rw [← HQ.out, ← hkl, hz.out])
          have p := mul_bd (show 0 ≤ s9 by omega) hs2 zb.1 zb.2
          have w3 : IntKind.i64.wrap (s9 * z) = s9 * z := IntWalk.i64_in _ (by omega)
          have w4 : IntKind.i64.wrap (oh - ol) = oh - ol := IntWalk.i64_in _ (by omega)
          have f0a := (ZB.out.cell (p := ⟨lb, lo + kk * 3, none⟩) hll).trans f0
          have lla : lb < wr.heap.size := Nat.lt_of_lt_of_le hll ZB.out.size
          go_wp2_with fail
          refine (ceilU _ (oh - ol) q _ p.1 (by omega) (by omega) (by omega) HQ2).mono ?_
          rintro e x9 ⟨rfl, rfl⟩
          go_wp2
          go_ret
          exact ⟨rfl, ZB.out⟩
  · have hlt : pb < pa := by omega
    have hm1 : ysu + min ybd yd = pb := by omega
    have hm2 : ysu + max ybd yd = pa := by omega
    rw [hm1] at hpl'
    rw [hm2] at hph'
    have e1 : (if pb < pa then pb else pa) = pb := by split <;> omega
    have e2 : (if pa < pb then pb else pa) = pa := by split <;> omega
    have w1 : IntKind.i64.wrap (yo * pb) = ol := by rw [hpl']; exact IntWalk.i64_in _ (by omega)
    have w2 : IntKind.i64.wrap (yo * pa) = oh := by rw [hph']; exact IntWalk.i64_in _ (by omega)
    clear hpa hpb hm1 hm2 hpl' hph'
    go_enter Try.func29, Try.ntmps29
    go_wp2_with fail
    refine (HEN.out _ (Lib.hid (hG.out.below (by (repeat (first | (with_reducible refine Below.drew ?_) | (with_reducible refine below_drewN ?_ _) | (with_reducible refine Below.alloc ?_ (by first | omega | (simp; done) | (simp; omega) | (simp at *; omega)) _) | (with_reducible refine Below.setCell ?_ (by first | omega | (simp; done) | (simp; omega) | (simp at *; omega)) _) | (with_reducible exact Below.refl _ _) | (with_reducible assumption) | (with_reducible refine Below.trans ?_ (Below.mono (by assumption) (by first | omega | (simp; done) | (simp; omega) | (simp at *; omega))))))))) (Lib.hid (hD.out.below (by (repeat (first | (with_reducible refine Below.drew ?_) | (with_reducible refine below_drewN ?_ _) | (with_reducible refine Below.alloc ?_ (by first | omega | (simp; done) | (simp; omega) | (simp at *; omega)) _) | (with_reducible refine Below.setCell ?_ (by first | omega | (simp; done) | (simp; omega) | (simp at *; omega)) _) | (with_reducible exact Below.refl _ _) | (with_reducible assumption) | (with_reducible refine Below.trans ?_ (Below.mono (by assumption) (by first | omega | (simp; done) | (simp; omega) | (simp at *; omega)))))))))).mono ?_
    rintro e x1 ⟨rfl, hb1⟩
    have hc1 : Below w.heap.size w x1 := (((Below.refl _ _).alloc (by first | exact Nat.le_refl _ | (simp; done) | (simp; omega)) _).alloc (by first | exact Nat.le_refl _ | (simp; done) | (simp; omega)) _).trans (hb1.mono (by first | exact Nat.le_refl _ | (simp; done) | (simp; omega)))
    have hB1 : Below w.heap.size w x1 := hc1
    have zu1 := hB1.size
    have PB : Hid (BlkF x1 w.heap.size (w.heap.size) [.string nm, .int .i64 s, .slice A gn gc, .slice (some ⟨lb, lo, none⟩) dn dc]) := Lib.hid (((BlkF.made (B := w.heap.size) w [.string nm, .int .i64 s, .slice A gn gc, .slice (some ⟨lb, lo, none⟩) dn dc] 40 (by first | exact Nat.le_refl _ | (simp; done) | (simp; omega))).below ((Below.refl _ _).alloc (Nat.le_refl _) _)).below hb1)
    have zPB1 := PB.out.lt
    have RB : Hid (BlkF x1 w.heap.size (w.heap.size + 1) [.slice AT tn tc, .int .i64 r.a, .int .i64 r.b, .int .i64 r.nc, .int .i64 r.dn, .int .i64 r.br, .int .i64 r.em, .int .i64 r.pa, .int .i64 r.sc]) := Lib.hid (by have := (BlkF.made (B := w.heap.size) (w.alloc (.cells #[.string nm, .int .i64 s, .slice A gn gc, .slice (some ⟨lb, lo, none⟩) dn dc] 40)) [.slice AT tn tc, .int .i64 r.a, .int .i64 r.b, .int .i64 r.nc, .int .i64 r.dn, .int .i64 r.br, .int .i64 r.em, .int .i64 r.pa, .int .i64 r.sc] 26 (by first | exact Nat.le_refl _ | (simp; done) | (simp; omega))).below hb1; simpa using this)
    have zRB1 := RB.out.lt
    clear hb1
    obtain ⟨PB_1_0, PB_1_1, PB_1_2, PB_1_3⟩ := b4 PB.out
    have lPB_1 := PB.out.lt
    have nPB_1 : x1.heap.size ≠ w.heap.size := by omega
    have mPB_1 : w.heap.size ≠ x1.heap.size := by omega
    obtain ⟨RB_1_0, RB_1_1, RB_1_2, RB_1_3, RB_1_4, RB_1_5, RB_1_6, RB_1_7, RB_1_8⟩ := b9 RB.out
    have lRB_1 := RB.out.lt
    have nRB_1 : x1.heap.size ≠ w.heap.size + 1 := by omega
    have mRB_1 : w.heap.size + 1 ≠ x1.heap.size := by omega
    go_upto_region 2 with (fail)
    refine wp_worldE (fun u => Below x1.heap.size x1 u ∧ BlkF u w.heap.size (x1.heap.size) [.int .i64 yo, .int .i64 yh]) ⟨(Below.refl _ _).alloc (by first | exact Nat.le_refl _ | (simp; done) | (simp; omega)) _, BlkF.made (B := w.heap.size) x1 [.int .i64 yo, .int .i64 yh] 72 (by first | exact Nat.le_refl _ | exact hB1.size | (simp; done) | (simp; omega))⟩ (fun x2 hu2 => ?_)
    obtain ⟨hc2, qGB⟩ := hu2
    have GB := Lib.hid qGB
    clear qGB
    have hB2 : Below w.heap.size w x2 := hB1.trans (hc2.mono hB1.size)
    have zu2 := hB2.size
    replace PB := Lib.hid (PB.out.below hc2)
    replace RB := Lib.hid (RB.out.below hc2)
    clear PB_1_0 PB_1_1 PB_1_2 PB_1_3 lPB_1 nPB_1 mPB_1 RB_1_0 RB_1_1 RB_1_2 RB_1_3 RB_1_4 RB_1_5 RB_1_6 RB_1_7 RB_1_8 lRB_1 nRB_1 mRB_1
    clear hB1 zu1 hc1
    obtain ⟨PB_2_0, PB_2_1, PB_2_2, PB_2_3⟩ := b4 PB.out
    have lPB_2 := PB.out.lt
    have nPB_2 : x2.heap.size ≠ w.heap.size := by omega
    have mPB_2 : w.heap.size ≠ x2.heap.size := by omega
    obtain ⟨RB_2_0, RB_2_1, RB_2_2, RB_2_3, RB_2_4, RB_2_5, RB_2_6, RB_2_7, RB_2_8⟩ := b9 RB.out
    have lRB_2 := RB.out.lt
    have nRB_2 : x2.heap.size ≠ w.heap.size + 1 := by omega
    have mRB_2 : w.heap.size + 1 ≠ x2.heap.size := by omega
    obtain ⟨GB_2_0, GB_2_1⟩ := b2 GB.out
    have lGB_2 := GB.out.lt
    have nGB_2 : x2.heap.size ≠ x1.heap.size := by omega
    have mGB_2 : x1.heap.size ≠ x2.heap.size := by omega
    have HS : Hid (∀ y, Below x2.heap.size x2 y → y.cell? ⟨w.heap.size, 0, none⟩ = some (.string nm) ∧ y.cell? ⟨w.heap.size, 1, none⟩ = some (.int .i64 s) ∧ y.cell? ⟨w.heap.size, 2, none⟩ = some (.slice A gn gc) ∧ y.cell? ⟨w.heap.size, 3, none⟩ = some (.slice (some ⟨lb, lo, none⟩) dn dc) ∧ y.cell? ⟨w.heap.size + 1, 0, none⟩ = some (.slice AT tn tc) ∧ y.cell? ⟨w.heap.size + 1, 1, none⟩ = some (.int .i64 r.a) ∧ y.cell? ⟨w.heap.size + 1, 2, none⟩ = some (.int .i64 r.b) ∧ y.cell? ⟨w.heap.size + 1, 3, none⟩ = some (.int .i64 r.nc) ∧ y.cell? ⟨w.heap.size + 1, 4, none⟩ = some (.int .i64 r.dn) ∧ y.cell? ⟨w.heap.size + 1, 5, none⟩ = some (.int .i64 r.br) ∧ y.cell? ⟨w.heap.size + 1, 6, none⟩ = some (.int .i64 r.em) ∧ y.cell? ⟨w.heap.size + 1, 7, none⟩ = some (.int .i64 r.pa) ∧ y.cell? ⟨w.heap.size + 1, 8, none⟩ = some (.int .i64 r.sc) ∧ y.cell? ⟨x1.heap.size, 0, none⟩ = some (.int .i64 yo) ∧ y.cell? ⟨x1.heap.size, 1, none⟩ = some (.int .i64 yh)) := Lib.hid fun y hy => ⟨(hy.cell (p := ⟨w.heap.size, 0, none⟩) lPB_2).trans PB_2_0, (hy.cell (p := ⟨w.heap.size, 1, none⟩) lPB_2).trans PB_2_1, (hy.cell (p := ⟨w.heap.size, 2, none⟩) lPB_2).trans PB_2_2, (hy.cell (p := ⟨w.heap.size, 3, none⟩) lPB_2).trans PB_2_3, (hy.cell (p := ⟨w.heap.size + 1, 0, none⟩) lRB_2).trans RB_2_0, (hy.cell (p := ⟨w.heap.size + 1, 1, none⟩) lRB_2).trans RB_2_1, (hy.cell (p := ⟨w.heap.size + 1, 2, none⟩) lRB_2).trans RB_2_2, (hy.cell (p := ⟨w.heap.size + 1, 3, none⟩) lRB_2).trans RB_2_3, (hy.cell (p := ⟨w.heap.size + 1, 4, none⟩) lRB_2).trans RB_2_4, (hy.cell (p := ⟨w.heap.size + 1, 5, none⟩) lRB_2).trans RB_2_5, (hy.cell (p := ⟨w.heap.size + 1, 6, none⟩) lRB_2).trans RB_2_6, (hy.cell (p := ⟨w.heap.size + 1, 7, none⟩) lRB_2).trans RB_2_7, (hy.cell (p := ⟨w.heap.size + 1, 8, none⟩) lRB_2).trans RB_2_8, (hy.cell (p := ⟨x1.heap.size, 0, none⟩) lGB_2).trans GB_2_0, (hy.cell (p := ⟨x1.heap.size, 1, none⟩) lGB_2).trans GB_2_1⟩
    refine wp_region_held_drew (S := (fun w' => w'.cell? ⟨w.heap.size, 0, none⟩ = some (.string nm) ∧ w'.cell? ⟨w.heap.size, 1, none⟩ = some (.int .i64 s) ∧ w'.cell? ⟨w.heap.size, 2, none⟩ = some (.slice A gn gc) ∧ w'.cell? ⟨w.heap.size, 3, none⟩ = some (.slice (some ⟨lb, lo, none⟩) dn dc) ∧ w'.cell? ⟨w.heap.size + 1, 0, none⟩ = some (.slice AT tn tc) ∧ w'.cell? ⟨w.heap.size + 1, 1, none⟩ = some (.int .i64 r.a) ∧ w'.cell? ⟨w.heap.size + 1, 2, none⟩ = some (.int .i64 r.b) ∧ w'.cell? ⟨w.heap.size + 1, 3, none⟩ = some (.int .i64 r.nc) ∧ w'.cell? ⟨w.heap.size + 1, 4, none⟩ = some (.int .i64 r.dn) ∧ w'.cell? ⟨w.heap.size + 1, 5, none⟩ = some (.int .i64 r.br) ∧ w'.cell? ⟨w.heap.size + 1, 6, none⟩ = some (.int .i64 r.em) ∧ w'.cell? ⟨w.heap.size + 1, 7, none⟩ = some (.int .i64 r.pa) ∧ w'.cell? ⟨w.heap.size + 1, 8, none⟩ = some (.int .i64 r.sc) ∧ w'.cell? ⟨x1.heap.size, 0, none⟩ = some (.int .i64 yo) ∧ w'.cell? ⟨x1.heap.size, 1, none⟩ = some (.int .i64 yh))) (by kernel_rfl) (HS.out _ (Below.refl _ _).drew) (fun hHeld => ?_)
    have hT0 : Below x2.heap.size x2 x2.drew := (Below.refl _ _).drew
    generalize hdr : x2.drew = y2v0 at *
    clear hdr
    refine tkH 0 ⟨some 23, _, _, _, _, _⟩ ?_ rfl ?_ (by assumption) ?_
    rotate_left
    · (intro w hSw; (try dsimp only at hSw); go_simp; all_goals with_reducible rfl)
    try simp only [Act.put, sA, sB, sC]
    refine tkH 1 ⟨some 24, _, _, _, _, _⟩ ?_ rfl ?_ (by assumption) ?_
    rotate_left
    · (intro w hSw; (try dsimp only at hSw); go_simp; all_goals with_reducible rfl)
    try simp only [Act.put, sA, sB, sC]
    refine tkH 2 ⟨some 25, _, _, _, _, _⟩ ?_ rfl ?_ (by assumption) ?_
    rotate_left
    · (intro w hSw; (try dsimp only at hSw); go_simp; all_goals with_reducible rfl)
    try simp only [Act.put, sA, sB, sC]
    refine tkH 3 ⟨some 26, _, _, _, _, _⟩ ?_ rfl ?_ (by assumption) ?_
    rotate_left
    · (intro w hSw; (try dsimp only at hSw); go_simp; all_goals with_reducible rfl)
    try simp only [Act.put, sA, sB, sC]
    refine tkH 4 ⟨some 27, _, _, _, _, _⟩ ?_ rfl ?_ (by assumption) ?_
    rotate_left
    · (intro w hSw; (try dsimp only at hSw); go_simp; (try simp only [e1, e2]); all_goals with_reducible rfl)
    try simp only [Act.put, sA, sB, sC]
    refine tkH 5 ⟨some 28, _, _, _, _, _⟩ ?_ rfl ?_ (by assumption) ?_
    rotate_left
    · (intro w hSw; (try dsimp only at hSw); go_simp; all_goals with_reducible rfl)
    try simp only [Act.put, sA, sB, sC]
    refine tkH 6 ⟨some 29, _, _, _, _, _⟩ ?_ rfl ?_ (by assumption) ?_
    rotate_left
    · (intro w hSw; (try dsimp only at hSw); go_simp; all_goals with_reducible rfl)
    try simp only [Act.put, sA, sB, sC]
    refine tkH 7 ⟨some 30, _, _, _, _, _⟩ ?_ rfl ?_ (by assumption) ?_
    rotate_left
    · (intro w hSw; (try dsimp only at hSw); go_simp; all_goals with_reducible rfl)
    try simp only [Act.put, sA, sB, sC]
    refine tkH 8 ⟨some 31, _, _, _, _, _⟩ ?_ rfl ?_ (by assumption) ?_
    rotate_left
    · (intro w hSw; (try dsimp only at hSw); go_simp; all_goals with_reducible rfl)
    try simp only [Act.put, sA, sB, sC]
    refine tkH 9 ⟨some 32, _, _, _, _, _⟩ ?_ rfl ?_ (by assumption) ?_
    rotate_left
    · (intro w hSw; (try dsimp only at hSw); go_simp; all_goals with_reducible rfl)
    try simp only [Act.put, sA, sB, sC]
    refine tkH 10 ⟨some 33, _, _, _, _, _⟩ ?_ rfl ?_ (by assumption) ?_
    rotate_left
    · (intro w hSw; (try dsimp only at hSw); go_simp; (try simp only [e1, e2]); all_goals with_reducible rfl)
    try simp only [Act.put, sA, sB, sC]
    refine tkH 11 ⟨some 34, _, _, _, _, _⟩ ?_ rfl ?_ (by assumption) ?_
    rotate_left
    · (intro w hSw; (try dsimp only at hSw); go_simp; all_goals with_reducible rfl)
    try simp only [Act.put, sA, sB, sC]
    refine tkH 12 ⟨some 10, _, _, _, _, _⟩ ?_ rfl ?_ (by assumption) ?_
    rotate_left
    · (intro w hSw; (try dsimp only at hSw); go_simp; all_goals with_reducible rfl)
    try simp only [Act.put, sA, sB, sC]
    refine tkH 13 ⟨some 11, _, _, _, _, _⟩ ?_ rfl ?_ (by assumption) ?_
    rotate_left
    · (intro w hSw; (try dsimp only at hSw); go_simp; all_goals with_reducible rfl)
    try simp only [Act.put, sA, sB, sC]
    refine wpAnyH_done (by kernel_rfl) ?_ _
    have hc3 : Below x2.heap.size x2 y2v0 := hT0
    have hB3 : Below w.heap.size w y2v0 := hB2.trans (hc3.mono hB2.size)
    have zu3 := hB3.size
    replace PB := Lib.hid (PB.out.below hc3)
    replace RB := Lib.hid (RB.out.below hc3)
    replace GB := Lib.hid (GB.out.below hc3)
    clear PB_2_0 PB_2_1 PB_2_2 PB_2_3 lPB_2 nPB_2 mPB_2 RB_2_0 RB_2_1 RB_2_2 RB_2_3 RB_2_4 RB_2_5 RB_2_6 RB_2_7 RB_2_8 lRB_2 nRB_2 mRB_2 GB_2_0 GB_2_1 lGB_2 nGB_2 mGB_2
    clear HS hHeld hT0 hB2 zu2 hc2
    obtain ⟨PB_3_0, PB_3_1, PB_3_2, PB_3_3⟩ := b4 PB.out
    have lPB_3 := PB.out.lt
    have nPB_3 : y2v0.heap.size ≠ w.heap.size := by omega
    have mPB_3 : w.heap.size ≠ y2v0.heap.size := by omega
    obtain ⟨RB_3_0, RB_3_1, RB_3_2, RB_3_3, RB_3_4, RB_3_5, RB_3_6, RB_3_7, RB_3_8⟩ := b9 RB.out
    have lRB_3 := RB.out.lt
    have nRB_3 : y2v0.heap.size ≠ w.heap.size + 1 := by omega
    have mRB_3 : w.heap.size + 1 ≠ y2v0.heap.size := by omega
    obtain ⟨GB_3_0, GB_3_1⟩ := b2 GB.out
    have lGB_3 := GB.out.lt
    have nGB_3 : y2v0.heap.size ≠ x1.heap.size := by omega
    have mGB_3 : x1.heap.size ≠ y2v0.heap.size := by omega
    by_cases hlh : ol = oh
    · rw [if_pos hlh] at hq1
      obtain ⟨rv, hrv⟩ : ∃ z, Hid (rateV T ol = z) := ⟨_, Lib.hid rfl⟩
      have rb : 0 ≤ rv ∧ rv ≤ 100000 := by have := rateG_bd hox.out ol T.length (Nat.le_refl _); rw [← hrv.out]; exact this
      rw [hrv.out] at hq1
      have HQ := Lib.hid hq1
      have pb := mul_bd (show 0 ≤ s9 by omega) hs2 rb.1 rb.2
      have w3 : IntKind.i64.wrap (s9 * rv) = s9 * rv := IntWalk.i64_in _ (by omega)
      have w3' : IntKind.i64.wrap (s9 * rv) = q := by rw [w3]; exact HQ.out
      have e3 : (ol == oh) = true := by simpa using hlh
      clear hq1 pb w3
      subst hlh
      have f0a := (hB3.cell (p := ⟨lb, lo + kk * 3, none⟩) hll).trans f0
      have lla : lb < y2v0.heap.size := Nat.lt_of_lt_of_le hll hB3.size
      go_upto_region 4 with (fail)
      have HS : Hid (∀ y, Below y2v0.heap.size y2v0 y → y.cell? ⟨w.heap.size, 0, none⟩ = some (.string nm) ∧ y.cell? ⟨w.heap.size, 1, none⟩ = some (.int .i64 s) ∧ y.cell? ⟨w.heap.size, 2, none⟩ = some (.slice A gn gc) ∧ y.cell? ⟨w.heap.size, 3, none⟩ = some (.slice (some ⟨lb, lo, none⟩) dn dc) ∧ y.cell? ⟨w.heap.size + 1, 0, none⟩ = some (.slice AT tn tc) ∧ y.cell? ⟨w.heap.size + 1, 1, none⟩ = some (.int .i64 r.a) ∧ y.cell? ⟨w.heap.size + 1, 2, none⟩ = some (.int .i64 r.b) ∧ y.cell? ⟨w.heap.size + 1, 3, none⟩ = some (.int .i64 r.nc) ∧ y.cell? ⟨w.heap.size + 1, 4, none⟩ = some (.int .i64 r.dn) ∧ y.cell? ⟨w.heap.size + 1, 5, none⟩ = some (.int .i64 r.br) ∧ y.cell? ⟨w.heap.size + 1, 6, none⟩ = some (.int .i64 r.em) ∧ y.cell? ⟨w.heap.size + 1, 7, none⟩ = some (.int .i64 r.pa) ∧ y.cell? ⟨w.heap.size + 1, 8, none⟩ = some (.int .i64 r.sc) ∧ y.cell? ⟨x1.heap.size, 0, none⟩ = some (.int .i64 yo) ∧ y.cell? ⟨x1.heap.size, 1, none⟩ = some (.int .i64 yh) ∧ y.cell? ⟨lb, lo + kk * 3, none⟩ = some (.int .i64 s9)) := Lib.hid fun y hy => ⟨(hy.cell (p := ⟨w.heap.size, 0, none⟩) lPB_3).trans PB_3_0, (hy.cell (p := ⟨w.heap.size, 1, none⟩) lPB_3).trans PB_3_1, (hy.cell (p := ⟨w.heap.size, 2, none⟩) lPB_3).trans PB_3_2, (hy.cell (p := ⟨w.heap.size, 3, none⟩) lPB_3).trans PB_3_3, (hy.cell (p := ⟨w.heap.size + 1, 0, none⟩) lRB_3).trans RB_3_0, (hy.cell (p := ⟨w.heap.size + 1, 1, none⟩) lRB_3).trans RB_3_1, (hy.cell (p := ⟨w.heap.size + 1, 2, none⟩) lRB_3).trans RB_3_2, (hy.cell (p := ⟨w.heap.size + 1, 3, none⟩) lRB_3).trans RB_3_3, (hy.cell (p := ⟨w.heap.size + 1, 4, none⟩) lRB_3).trans RB_3_4, (hy.cell (p := ⟨w.heap.size + 1, 5, none⟩) lRB_3).trans RB_3_5, (hy.cell (p := ⟨w.heap.size + 1, 6, none⟩) lRB_3).trans RB_3_6, (hy.cell (p := ⟨w.heap.size + 1, 7, none⟩) lRB_3).trans RB_3_7, (hy.cell (p := ⟨w.heap.size + 1, 8, none⟩) lRB_3).trans RB_3_8, (hy.cell (p := ⟨x1.heap.size, 0, none⟩) lGB_3).trans GB_3_0, (hy.cell (p := ⟨x1.heap.size, 1, none⟩) lGB_3).trans GB_3_1, (hy.cell (p := ⟨lb, lo + kk * 3, none⟩) lla).trans f0a⟩
      refine wp_region_held_drew (S := (fun w' => w'.cell? ⟨w.heap.size, 0, none⟩ = some (.string nm) ∧ w'.cell? ⟨w.heap.size, 1, none⟩ = some (.int .i64 s) ∧ w'.cell? ⟨w.heap.size, 2, none⟩ = some (.slice A gn gc) ∧ w'.cell? ⟨w.heap.size, 3, none⟩ = some (.slice (some ⟨lb, lo, none⟩) dn dc) ∧ w'.cell? ⟨w.heap.size + 1, 0, none⟩ = some (.slice AT tn tc) ∧ w'.cell? ⟨w.heap.size + 1, 1, none⟩ = some (.int .i64 r.a) ∧ w'.cell? ⟨w.heap.size + 1, 2, none⟩ = some (.int .i64 r.b) ∧ w'.cell? ⟨w.heap.size + 1, 3, none⟩ = some (.int .i64 r.nc) ∧ w'.cell? ⟨w.heap.size + 1, 4, none⟩ = some (.int .i64 r.dn) ∧ w'.cell? ⟨w.heap.size + 1, 5, none⟩ = some (.int .i64 r.br) ∧ w'.cell? ⟨w.heap.size + 1, 6, none⟩ = some (.int .i64 r.em) ∧ w'.cell? ⟨w.heap.size + 1, 7, none⟩ = some (.int .i64 r.pa) ∧ w'.cell? ⟨w.heap.size + 1, 8, none⟩ = some (.int .i64 r.sc) ∧ w'.cell? ⟨x1.heap.size, 0, none⟩ = some (.int .i64 yo) ∧ w'.cell? ⟨x1.heap.size, 1, none⟩ = some (.int .i64 yh) ∧ w'.cell? ⟨lb, lo + kk * 3, none⟩ = some (.int .i64 s9))) (by kernel_rfl) (HS.out _ (Below.refl _ _).drew) (fun hHeld => ?_)
      have hT0 : Below y2v0.heap.size y2v0 y2v0.drew := (Below.refl _ _).drew
      generalize hdr : y2v0.drew = y3v0 at *
      clear hdr
      refine tkH 0 ⟨some 38, _, _, _, _, _⟩ ?_ rfl ?_ (by assumption) ?_
      rotate_left
      · (intro w hSw; (try dsimp only at hSw); go_simp; all_goals with_reducible rfl)
      try simp only [Act.put, sA, sB, sC]
      refine tkH 1 ⟨some 39, _, _, _, _, _⟩ ?_ rfl ?_ (by assumption) ?_
      rotate_left
      · (intro w hSw; (try dsimp only at hSw); go_simp; all_goals with_reducible rfl)
      try simp only [Act.put, sA, sB, sC]
      refine tkH 2 ⟨some 40, _, _, _, _, _⟩ ?_ rfl ?_ (by assumption) ?_
      rotate_left
      · (intro w hSw; (try dsimp only at hSw); go_simp; all_goals with_reducible rfl)
      try simp only [Act.put, sA, sB, sC]
      refine tkH 3 ⟨some 41, _, _, _, _, _⟩ ?_ rfl ?_ (by assumption) ?_
      rotate_left
      · (intro w hSw; (try dsimp only at hSw); go_simp; all_goals with_reducible rfl)
      try simp only [Act.put, sA, sB, sC]
      refine tkH 4 ⟨some 42, _, _, _, _, _⟩ ?_ rfl ?_ (by assumption) ?_
      rotate_left
      · (intro w hSw; (try dsimp only at hSw); go_simp; all_goals with_reducible rfl)
      try simp only [Act.put, sA, sB, sC]
      refine tkH 5 ⟨some 43, _, _, _, _, _⟩ ?_ rfl ?_ (by assumption) ?_
      rotate_left
      · (intro w hSw; (try dsimp only at hSw); go_simp; all_goals with_reducible rfl)
      try simp only [Act.put, sA, sB, sC]
      refine tkH 6 ⟨some 44, _, _, _, _, _⟩ ?_ rfl ?_ (by assumption) ?_
      rotate_left
      · (intro w hSw; (try dsimp only at hSw); go_simp; all_goals with_reducible rfl)
      try simp only [Act.put, sA, sB, sC]
      refine tkH 7 ⟨some 45, _, _, _, _, _⟩ ?_ rfl ?_ (by assumption) ?_
      rotate_left
      · (intro w hSw; (try dsimp only at hSw); go_simp; all_goals with_reducible rfl)
      try simp only [Act.put, sA, sB, sC]
      refine wpAnyH_ready (rs := [8]) (by kernel_rfl) (by simp) ?_
      refine AllReadyH.cons rfl (fun K hK => ?_) (AllReadyH.nil)
      go_simp
      refine (refRate_is T r AT tn tc ol rv _ htn (Lib.hid (hT.out.below (hB3.trans (hT0.mono hB3.size)))) hox hrv).mono ?_
      rintro e y3v1 ⟨rfl, hby3v0⟩
      have hT1 : Below y2v0.heap.size y2v0 y3v1 := hT0.trans (hby3v0.mono hT0.size)
      clear hby3v0
      go_wp2_with fail
      refine hK.out _ _ (HS.out _ hT1) (fun hHeld => ?_)
      clear hK K
      try simp only [Act.put, sA, sB, sC]
      refine tkH 9 ⟨some 47, _, _, _, _, _⟩ ?_ rfl ?_ (by assumption) ?_
      rotate_left
      · (intro w hSw; (try dsimp only at hSw); go_simp; all_goals with_reducible rfl)
      try simp only [Act.put, sA, sB, sC]
      refine tkH 10 ⟨some 6, _, _, _, _, _⟩ ?_ rfl ?_ (by assumption) ?_
      rotate_left
      · (intro w hSw; (try dsimp only at hSw); go_simp; all_goals with_reducible rfl)
      try simp only [Act.put, sA, sB, sC]
      refine wpAnyH_done (by kernel_rfl) ?_ _
      have hc4 : Below y2v0.heap.size y2v0 y3v1 := hT1
      have hB4 : Below w.heap.size w y3v1 := hB3.trans (hc4.mono hB3.size)
      have zu4 := hB4.size
      replace PB := Lib.hid (PB.out.below hc4)
      replace RB := Lib.hid (RB.out.below hc4)
      replace GB := Lib.hid (GB.out.below hc4)
      clear PB_3_0 PB_3_1 PB_3_2 PB_3_3 lPB_3 nPB_3 mPB_3 RB_3_0 RB_3_1 RB_3_2 RB_3_3 RB_3_4 RB_3_5 RB_3_6 RB_3_7 RB_3_8 lRB_3 nRB_3 mRB_3 GB_3_0 GB_3_1 lGB_3 nGB_3 mGB_3
      clear HS hHeld hT0 hT1 hB3 zu3 hc3
      obtain ⟨PB_4_0, PB_4_1, PB_4_2, PB_4_3⟩ := b4 PB.out
      have lPB_4 := PB.out.lt
      have nPB_4 : y3v1.heap.size ≠ w.heap.size := by omega
      have mPB_4 : w.heap.size ≠ y3v1.heap.size := by omega
      obtain ⟨RB_4_0, RB_4_1, RB_4_2, RB_4_3, RB_4_4, RB_4_5, RB_4_6, RB_4_7, RB_4_8⟩ := b9 RB.out
      have lRB_4 := RB.out.lt
      have nRB_4 : y3v1.heap.size ≠ w.heap.size + 1 := by omega
      have mRB_4 : w.heap.size + 1 ≠ y3v1.heap.size := by omega
      obtain ⟨GB_4_0, GB_4_1⟩ := b2 GB.out
      have lGB_4 := GB.out.lt
      have nGB_4 : y3v1.heap.size ≠ x1.heap.size := by omega
      have mGB_4 : x1.heap.size ≠ y3v1.heap.size := by omega
      go_wp2
      go_ret
      exact ⟨rfl, hB4⟩
    · rw [if_neg hlh] at hq1
      have HQ := Lib.hid hq1
      have e3 : (ol == oh) = false := by simpa using hlh
      have ZB0 := Lib.hid hB3
      clear hq1
      go_wp2
      go_loopw [12, 13] (fun v i wr => ∃ (k : Nat) (z : Int), k ≤ tn ∧ i = .int .i64 k ∧ v = .int .i64 z ∧ Hid (clkS T ol oh k = z) ∧ Hid (BlkF wr w.heap.size w.heap.size [.string nm, .int .i64 s, .slice A gn gc, .slice (some ⟨lb, lo, none⟩) dn dc]) ∧ Hid (BlkF wr w.heap.size (w.heap.size + 1) [.slice AT tn tc, .int .i64 r.a, .int .i64 r.b, .int .i64 r.nc, .int .i64 r.dn, .int .i64 r.br, .int .i64 r.em, .int .i64 r.pa, .int .i64 r.sc]) ∧ Hid (Below w.heap.size w wr)) (fun _ i _ => tn - (intOf i).toNat)
      case atStart => exact ⟨0, 0, by omega, rfl, rfl, Lib.hid rfl, PB, RB, ZB0⟩
      case round =>
        clear PB_3_0 PB_3_1 PB_3_2 PB_3_3 lPB_3 nPB_3 mPB_3 RB_3_0 RB_3_1 RB_3_2 RB_3_3 RB_3_4 RB_3_5 RB_3_6 RB_3_7 RB_3_8 lRB_3 nRB_3 mRB_3 GB_3_0 GB_3_1 lGB_3 nGB_3 mGB_3 PB RB GB ZB0 hB3 zu3 hc3
        obtain ⟨k, z, hk', rfl, rfl, hz, HP, HR, ZB⟩ := hrel
        obtain ⟨c0, c1, c2, c3⟩ := b4 HP.out
        obtain ⟨r0, r1, r2, r3, r4, r5, r6, r7, r8⟩ := b9 HR.out
        have hl0 := HP.out.lt
        have hl1 := HR.out.lt
        have zb := clkS_max hox.out b0 b1 b2' (k := k) (by have := htn.out; omega)
        rw [hz.out] at zb
        by_cases hkn : k < tn
        · have kn : (k : Int) < (tn : Int) := by omega
          have k00 : ¬ (k : Int) < 0 := by omega
          have hkT : k < T.length := by have := htn.out; omega
          have bk := hox.out.at' hkT
          obtain ⟨b, o, rfl, hlt, hR⟩ := (hT.out.below ZB.out).at' hkT
          obtain ⟨g0, g1⟩ := ox_at hR hkT
          obtain ⟨fr, hfr⟩ : ∃ z, Hid (T[k].f = z) := ⟨_, Lib.hid rfl⟩
          obtain ⟨rt, hrt⟩ : ∃ z, Hid (T[k].r = z) := ⟨_, Lib.hid rfl⟩
          rw [hfr.out] at g0
          rw [hrt.out] at g1
          rw [hfr.out, hrt.out] at bk
          obtain ⟨m9, hm9⟩ : ∃ z, Hid (1000 * fr = z) := ⟨_, Lib.hid rfl⟩
          have hw1 : IntKind.i64.wrap (1000 * fr) = m9 := by rw [IntWalk.i64_in _ (by omega)]; exact hm9.out
          have m0 : 0 ≤ m9 ∧ m9 ≤ 4000000 := by have := hm9.out; omega
          have hwk : IntKind.i64.wrap ((k : Int) + 1) = (k : Int) + 1 := IntWalk.i64_in _ (by omega)
          have hW : Hid (clkW T ol oh k = max 0 ((if k + 1 < T.length then min oh (1000 * (T.getD (k + 1) default).f) else oh) - max ol m9)) := Lib.hid (by unfold clkW; rw [getD_at hkT, hfr.out, hm9.out])
          have hS : Hid (clkS T ol oh (k + 1) = z + rt * clkW T ol oh k) := Lib.hid (by show clkS T ol oh k + (T.getD k default).r * clkW T ol oh k = _; rw [hz.out, getD_at hkT, hrt.out])
          by_cases hk1 : k + 1 < tn
          · have k1n : (k : Int) + 1 < (tn : Int) := by omega
            have hk1T : k + 1 < T.length := by have := htn.out; omega
            have bn := hox.out.at' hk1T
            have n0 := (ox_at hR hk1T).1
            obtain ⟨nf, hnf⟩ : ∃ z, Hid (T[k + 1].f = z) := ⟨_, Lib.hid rfl⟩
            rw [hnf.out] at n0 bn
            obtain ⟨n9, hn9⟩ : ∃ z, Hid (1000 * nf = z) := ⟨_, Lib.hid rfl⟩
            have hw2 : IntKind.i64.wrap (1000 * nf) = n9 := by rw [IntWalk.i64_in _ (by omega)]; exact hn9.out
            have nb : 0 ≤ n9 ∧ n9 ≤ 4000000 := by have := hn9.out; omega
            have hW2 : Hid (clkW T ol oh k = max 0 (min oh n9 - max ol m9)) := Lib.hid (by rw [hW.out, if_pos hk1T, getD_at hk1T, hnf.out, hn9.out])
            have k10 : ¬ (k : Int) + 1 < 0 := by omega
            by_cases i1 : n9 < oh
            · skip
              by_cases i2 : ol < m9
              · skip
                skip
                obtain ⟨d9, hd9⟩ : ∃ z, Hid (n9 - m9 = z) := ⟨_, Lib.hid rfl⟩
                have hw3 : IntKind.i64.wrap (n9 - m9) = d9 := by rw [IntWalk.i64_in _ (by omega)]; exact hd9.out
                by_cases i3 : 0 < d9
                · skip
                  have hWv : Hid (clkW T ol oh k = d9) := Lib.hid (by rw [hW2.out]; have := hd9.out; omega)
                  have wb := clkW_bd hox.out b0 b1 k
                  rw [hWv.out] at wb
                  have pb := mul_bd bk.2.2.1 bk.2.2.2 wb.1 (show d9 ≤ 31100000 by omega)
                  obtain ⟨p9, hp9⟩ : ∃ z, Hid (rt * d9 = z) := ⟨_, Lib.hid rfl⟩
                  rw [hp9.out] at pb
                  have hw4 : IntKind.i64.wrap (rt * d9) = p9 := by rw [IntWalk.i64_in _ (by rw [hp9.out]; omega)]; exact hp9.out
                  obtain ⟨t9, ht9⟩ : ∃ y, Hid (z + p9 = y) := ⟨_, Lib.hid rfl⟩
                  have hw5 : IntKind.i64.wrap (z + p9) = t9 := by rw [IntWalk.i64_in _ (by omega)]; exact ht9.out
                  have hN : Hid (clkS T ol oh (k + 1) = t9) := Lib.hid (by rw [hS.out, hWv.out, hp9.out, ht9.out])
                  clear pb wb
                  clear hS hW hW2 hWv hR
                  go_wp2
                  go_roundw
                  case rel => exact ⟨k + 1, t9, by omega, by go_num, rfl, hN, HP, HR, ZB⟩
                  case measure => simp [intOf]; omega
                · skip
                  have hWv : Hid (clkW T ol oh k = 0) := Lib.hid (by rw [hW2.out]; have := hd9.out; omega)
                  have hw5 : IntKind.i64.wrap z = z := IntWalk.i64_in _ (by omega)
                  have hN : Hid (clkS T ol oh (k + 1) = z) := Lib.hid (by rw [hS.out, hWv.out]; omega)
                  clear hS hW hW2 hWv hR
                  go_wp2
                  go_roundw
                  case rel => exact ⟨k + 1, z, by omega, by go_num, rfl, hN, HP, HR, ZB⟩
                  case measure => simp [intOf]; omega
              · skip
                skip
                obtain ⟨d9, hd9⟩ : ∃ z, Hid (n9 - ol = z) := ⟨_, Lib.hid rfl⟩
                have hw3 : IntKind.i64.wrap (n9 - ol) = d9 := by rw [IntWalk.i64_in _ (by omega)]; exact hd9.out
                by_cases i3 : 0 < d9
                · skip
                  have hWv : Hid (clkW T ol oh k = d9) := Lib.hid (by rw [hW2.out]; have := hd9.out; omega)
                  have wb := clkW_bd hox.out b0 b1 k
                  rw [hWv.out] at wb
                  have pb := mul_bd bk.2.2.1 bk.2.2.2 wb.1 (show d9 ≤ 31100000 by omega)
                  obtain ⟨p9, hp9⟩ : ∃ z, Hid (rt * d9 = z) := ⟨_, Lib.hid rfl⟩
                  rw [hp9.out] at pb
                  have hw4 : IntKind.i64.wrap (rt * d9) = p9 := by rw [IntWalk.i64_in _ (by rw [hp9.out]; omega)]; exact hp9.out
                  obtain ⟨t9, ht9⟩ : ∃ y, Hid (z + p9 = y) := ⟨_, Lib.hid rfl⟩
                  have hw5 : IntKind.i64.wrap (z + p9) = t9 := by rw [IntWalk.i64_in _ (by omega)]; exact ht9.out
                  have hN : Hid (clkS T ol oh (k + 1) = t9) := Lib.hid (by rw [hS.out, hWv.out, hp9.out, ht9.out])
                  clear pb wb
                  clear hS hW hW2 hWv hR
                  go_wp2
                  go_roundw
                  case rel => exact ⟨k + 1, t9, by omega, by go_num, rfl, hN, HP, HR, ZB⟩
                  case measure => simp [intOf]; omega
                · skip
                  have hWv : Hid (clkW T ol oh k = 0) := Lib.hid (by rw [hW2.out]; have := hd9.out; omega)
                  have hw5 : IntKind.i64.wrap z = z := IntWalk.i64_in _ (by omega)
                  have hN : Hid (clkS T ol oh (k + 1) = z) := Lib.hid (by rw [hS.out, hWv.out]; omega)
                  clear hS hW hW2 hWv hR
                  go_wp2
                  go_roundw
                  case rel => exact ⟨k + 1, z, by omega, by go_num, rfl, hN, HP, HR, ZB⟩
                  case measure => simp [intOf]; omega
            · skip
              by_cases i2 : ol < m9
              · skip
                skip
                obtain ⟨d9, hd9⟩ : ∃ z, Hid (oh - m9 = z) := ⟨_, Lib.hid rfl⟩
                have hw3 : IntKind.i64.wrap (oh - m9) = d9 := by rw [IntWalk.i64_in _ (by omega)]; exact hd9.out
                by_cases i3 : 0 < d9
                · skip
                  have hWv : Hid (clkW T ol oh k = d9) := Lib.hid (by rw [hW2.out]; have := hd9.out; omega)
                  have wb := clkW_bd hox.out b0 b1 k
                  rw [hWv.out] at wb
                  have pb := mul_bd bk.2.2.1 bk.2.2.2 wb.1 (show d9 ≤ 31100000 by omega)
                  obtain ⟨p9, hp9⟩ : ∃ z, Hid (rt * d9 = z) := ⟨_, Lib.hid rfl⟩
                  rw [hp9.out] at pb
                  have hw4 : IntKind.i64.wrap (rt * d9) = p9 := by rw [IntWalk.i64_in _ (by rw [hp9.out]; omega)]; exact hp9.out
                  obtain ⟨t9, ht9⟩ : ∃ y, Hid (z + p9 = y) := ⟨_, Lib.hid rfl⟩
                  have hw5 : IntKind.i64.wrap (z + p9) = t9 := by rw [IntWalk.i64_in _ (by omega)]; exact ht9.out
                  have hN : Hid (clkS T ol oh (k + 1) = t9) := Lib.hid (by rw [hS.out, hWv.out, hp9.out, ht9.out])
                  clear pb wb
                  clear hS hW hW2 hWv hR
                  go_wp2
                  go_roundw
                  case rel => exact ⟨k + 1, t9, by omega, by go_num, rfl, hN, HP, HR, ZB⟩
                  case measure => simp [intOf]; omega
                · skip
                  have hWv : Hid (clkW T ol oh k = 0) := Lib.hid (by rw [hW2.out]; have := hd9.out; omega)
                  have hw5 : IntKind.i64.wrap z = z := IntWalk.i64_in _ (by omega)
                  have hN : Hid (clkS T ol oh (k + 1) = z) := Lib.hid (by rw [hS.out, hWv.out]; omega)
                  clear hS hW hW2 hWv hR
                  go_wp2
                  go_roundw
                  case rel => exact ⟨k + 1, z, by omega, by go_num, rfl, hN, HP, HR, ZB⟩
                  case measure => simp [intOf]; omega
              · skip
                skip
                obtain ⟨d9, hd9⟩ : ∃ z, Hid (oh - ol = z) := ⟨_, Lib.hid rfl⟩
                have hw3 : IntKind.i64.wrap (oh - ol) = d9 := by rw [IntWalk.i64_in _ (by omega)]; exact hd9.out
                by_cases i3 : 0 < d9
                · skip
                  have hWv : Hid (clkW T ol oh k = d9) := Lib.hid (by rw [hW2.out]; have := hd9.out; omega)
                  have wb := clkW_bd hox.out b0 b1 k
                  rw [hWv.out] at wb
                  have pb := mul_bd bk.2.2.1 bk.2.2.2 wb.1 (show d9 ≤ 31100000 by omega)
                  obtain ⟨p9, hp9⟩ : ∃ z, Hid (rt * d9 = z) := ⟨_, Lib.hid rfl⟩
                  rw [hp9.out] at pb
                  have hw4 : IntKind.i64.wrap (rt * d9) = p9 := by rw [IntWalk.i64_in _ (by rw [hp9.out]; omega)]; exact hp9.out
                  obtain ⟨t9, ht9⟩ : ∃ y, Hid (z + p9 = y) := ⟨_, Lib.hid rfl⟩
                  have hw5 : IntKind.i64.wrap (z + p9) = t9 := by rw [IntWalk.i64_in _ (by omega)]; exact ht9.out
                  have hN : Hid (clkS T ol oh (k + 1) = t9) := Lib.hid (by rw [hS.out, hWv.out, hp9.out, ht9.out])
                  clear pb wb
                  clear hS hW hW2 hWv hR
                  go_wp2
                  go_roundw
                  case rel => exact ⟨k + 1, t9, by omega, by go_num, rfl, hN, HP, HR, ZB⟩
                  case measure => simp [intOf]; omega
                · skip
                  have hWv : Hid (clkW T ol oh k = 0) := Lib.hid (by rw [hW2.out]; have := hd9.out; omega)
                  have hw5 : IntKind.i64.wrap z = z := IntWalk.i64_in _ (by omega)
                  have hN : Hid (clkS T ol oh (k + 1) = z) := Lib.hid (by rw [hS.out, hWv.out]; omega)
                  clear hS hW hW2 hWv hR
                  go_wp2
                  go_roundw
                  case rel => exact ⟨k + 1, z, by omega, by go_num, rfl, hN, HP, HR, ZB⟩
                  case measure => simp [intOf]; omega
          · have k1n : ¬ (k : Int) + 1 < (tn : Int) := by omega
            have hW2 : Hid (clkW T ol oh k = max 0 (oh - max ol m9)) := Lib.hid (by rw [hW.out, if_neg (by have := htn.out; omega)])
            by_cases i2 : ol < m9
            · skip
              skip
              obtain ⟨d9, hd9⟩ : ∃ z, Hid (oh - m9 = z) := ⟨_, Lib.hid rfl⟩
              have hw3 : IntKind.i64.wrap (oh - m9) = d9 := by rw [IntWalk.i64_in _ (by omega)]; exact hd9.out
              by_cases i3 : 0 < d9
              · skip
                have hWv : Hid (clkW T ol oh k = d9) := Lib.hid (by rw [hW2.out]; have := hd9.out; omega)
                have wb := clkW_bd hox.out b0 b1 k
                rw [hWv.out] at wb
                have pb := mul_bd bk.2.2.1 bk.2.2.2 wb.1 (show d9 ≤ 31100000 by omega)
                obtain ⟨p9, hp9⟩ : ∃ z, Hid (rt * d9 = z) := ⟨_, Lib.hid rfl⟩
                rw [hp9.out] at pb
                have hw4 : IntKind.i64.wrap (rt * d9) = p9 := by rw [IntWalk.i64_in _ (by rw [hp9.out]; omega)]; exact hp9.out
                obtain ⟨t9, ht9⟩ : ∃ y, Hid (z + p9 = y) := ⟨_, Lib.hid rfl⟩
                have hw5 : IntKind.i64.wrap (z + p9) = t9 := by rw [IntWalk.i64_in _ (by omega)]; exact ht9.out
                have hN : Hid (clkS T ol oh (k + 1) = t9) := Lib.hid (by rw [hS.out, hWv.out, hp9.out, ht9.out])
                clear pb wb
                clear hS hW hW2 hWv hR
                go_wp2
                go_roundw
                case rel => exact ⟨k + 1, t9, by omega, by go_num, rfl, hN, HP, HR, ZB⟩
                case measure => simp [intOf]; omega
              · skip
                have hWv : Hid (clkW T ol oh k = 0) := Lib.hid (by rw [hW2.out]; have := hd9.out; omega)
                have hw5 : IntKind.i64.wrap z = z := IntWalk.i64_in _ (by omega)
                have hN : Hid (clkS T ol oh (k + 1) = z) := Lib.hid (by rw [hS.out, hWv.out]; omega)
                clear hS hW hW2 hWv hR
                go_wp2
                go_roundw
                case rel => exact ⟨k + 1, z, by omega, by go_num, rfl, hN, HP, HR, ZB⟩
                case measure => simp [intOf]; omega
            · skip
              skip
              obtain ⟨d9, hd9⟩ : ∃ z, Hid (oh - ol = z) := ⟨_, Lib.hid rfl⟩
              have hw3 : IntKind.i64.wrap (oh - ol) = d9 := by rw [IntWalk.i64_in _ (by omega)]; exact hd9.out
              by_cases i3 : 0 < d9
              · skip
                have hWv : Hid (clkW T ol oh k = d9) := Lib.hid (by rw [hW2.out]; have := hd9.out; omega)
                have wb := clkW_bd hox.out b0 b1 k
                rw [hWv.out] at wb
                have pb := mul_bd bk.2.2.1 bk.2.2.2 wb.1 (show d9 ≤ 31100000 by omega)
                obtain ⟨p9, hp9⟩ : ∃ z, Hid (rt * d9 = z) := ⟨_, Lib.hid rfl⟩
                rw [hp9.out] at pb
                have hw4 : IntKind.i64.wrap (rt * d9) = p9 := by rw [IntWalk.i64_in _ (by rw [hp9.out]; omega)]; exact hp9.out
                obtain ⟨t9, ht9⟩ : ∃ y, Hid (z + p9 = y) := ⟨_, Lib.hid rfl⟩
                have hw5 : IntKind.i64.wrap (z + p9) = t9 := by rw [IntWalk.i64_in _ (by omega)]; exact ht9.out
                have hN : Hid (clkS T ol oh (k + 1) = t9) := Lib.hid (by rw [hS.out, hWv.out, hp9.out, ht9.out])
                clear pb wb
                clear hS hW hW2 hWv hR
                go_wp2
                go_roundw
                case rel => exact ⟨k + 1, t9, by omega, by go_num, rfl, hN, HP, HR, ZB⟩
                case measure => simp [intOf]; omega
              · skip
                have hWv : Hid (clkW T ol oh k = 0) := Lib.hid (by rw [hW2.out]; have := hd9.out; omega)
                have hw5 : IntKind.i64.wrap z = z := IntWalk.i64_in _ (by omega)
                have hN : Hid (clkS T ol oh (k + 1) = z) := Lib.hid (by rw [hS.out, hWv.out]; omega)
                clear hS hW hW2 hWv hR
                go_wp2
                go_roundw
                case rel => exact ⟨k + 1, z, by omega, by go_num, rfl, hN, HP, HR, ZB⟩
                case measure => simp [intOf]; omega
        · have kn : ¬ (k : Int) < (tn : Int) := by omega
          have hkl : k = T.length := by have := htn.out; omega
          have HQ2 : Hid (upE (s9 * z) (oh - ol) = q) := Lib.hid (by rw [← HQ.out, ← hkl, hz.out])
          have p := mul_bd (show 0 ≤ s9 by omega) hs2 zb.1 zb.2
          have w3 : IntKind.i64.wrap (s9 * z) = s9 * z := IntWalk.i64_in _ (by omega)
          have w4 : IntKind.i64.wrap (oh - ol) = oh - ol := IntWalk.i64_in _ (by omega)
          have f0a := (ZB.out.cell (p := ⟨lb, lo + kk * 3, none⟩) hll).trans f0
          have lla : lb < wr.heap.size := Nat.lt_of_lt_of_le hll ZB.out.size
          go_wp2_with fail
          refine (ceilU _ (oh - ol) q _ p.1 (by omega) (by omega) (by omega) HQ2).mono ?_
          rintro e x9 ⟨rfl, rfl⟩
          go_wp2
          go_ret
          exact ⟨rfl, ZB.out⟩
end Go.Proofs.Ytijdphlejokijaa
