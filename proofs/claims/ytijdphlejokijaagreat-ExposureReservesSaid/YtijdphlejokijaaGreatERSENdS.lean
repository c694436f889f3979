import Derived.Test.YtijdphlejokijaaGreatERSENdR
import Derived.Outline
namespace Go.Proofs.YtijdphlejokijaaGreat
open Go.ChangeShapes Go.WideShapes Go.ChangeAt Go.RowKit
set_option linter.unusedVariables false
set_option linter.unusedSimpArgs false
attribute [local go_sem ↓] Go.wp_at_zero Go.wp_at_succ

theorem sl_int {w : World} {b : Nat} {L : List Int} (h : SlRows inV 1 w (some ⟨b, 0, none⟩) L) {k : Nat} {v : Int} (hk : k < L.length) (hv : L.getD k 0 = v) : w.cell? ⟨b, k, none⟩ = some (.int .i64 v) := by
  rcases h with h | ⟨b', o, e, _, hR⟩
  · rw [h] at hk; simp at hk
  · cases e
    have := hR k hk 0 (by omega)
    rw [show 0 + k * 1 + 0 = k by omega] at this
    rw [this, ← hv, List.getD_eq_getElem?_getD, List.getElem?_eq_getElem hk]
    rfl
theorem fldQ (x y : Int) (w : World) : (Instr.field 62 (.agg #[.int .i64 x, .int .i64 y]) 1).run Tryz.prog w = .ok (.int .i64 y) w := by kernel_rfl
set_option maxRecDepth 100000 in
set_option maxHeartbeats 4000000 in
theorem refNeedAt_is (nm : ByteArray) (s : Int) (G : List Ga) (D : List Le) (A B : Option Addr) (gn gc dn dc : Nat) (T : List Ox) (r : Ru) (AT : Option Addr) (tn tc : Nat) (t am : Int) (gk : Nat) (w : World) (hgn : Hid (gn = G.length)) (hdn : Hid (dn = D.length)) (hok : Hid (PlnOk nm s G D)) (hG : Hid (SlRows gaV 2 w A G)) (hD : Hid (SlRows leV 3 w B D)) (hru : Hid (RuOk T r)) (h0 : 0 < dn) (t0 : 0 ≤ t) (ht9 : Hid (t ≤ secT D dn)) (hS : Hid (secT D dn ≤ 20000)) (hG9 : Hid (ndG s G D t = gk)) (hV9 : Hid (ndV r s G D t = am)) :
    Calls Tryz.prog 37 #[.agg #[.string nm, .int .i64 s, .slice A gn gc, .slice B dn dc], .agg #[.slice AT tn tc, .int .i64 r.a, .int .i64 r.b, .int .i64 r.nc, .int .i64 r.dn, .int .i64 r.br, .int .i64 r.em, .int .i64 r.pa, .int .i64 r.sc], .int .i64 t] w fun e w' => e = .returned (.tuple #[.int .i64 gk, .int .i64 am]) ∧ Below w.heap.size w w' := by
  have fl1 := fldQ
  have hdD : 0 < D.length := by have := hdn.out; omega
  have htD : t ≤ secT D D.length := by have := hdn.out; have := ht9.out; rw [← hdn.out]; exact ht9.out
  have h1 := lgN_is hok.out hdD htD
  have h2 := lgN_beg hok.out hdD t0 htD
  obtain ⟨h3, h4⟩ := ndG_lt hok.out hdD htD
  have hV := ndV_T (r := r) hok.out hdD t0 htD
  obtain ⟨kk, hkk⟩ : ∃ z, Hid (lgN D t = z) := ⟨_, Lib.hid rfl⟩
  rw [hG9.out] at h3 h4 hV
  rw [hV9.out] at hV
  have HGA : Hid ((legK s G D (lgN D t)).g = (gk : Int)) := Lib.hid h4
  rw [hkk.out] at h1 h2 hV
  have hpre := Lib.hid h1.2.1
  have hend := Lib.hid h1.2.2
  have hbeg := Lib.hid h2
  have hk : kk < dn := by have := hdn.out; omega
  have hbr := hru.out.br
  have hS9 : secT D D.length ≤ 20000 := by rw [← hdn.out]; exact hS.out
  have t1 : t ≤ 20000 := by omega
  obtain ⟨L, hL⟩ : ∃ z, Hid (conT r.br t (legK s G D) gn (List.range dn) = z) := ⟨_, Lib.hid rfl⟩
  have hLl : L.length = gn := by rw [← hL.out]; exact (conT_snocL r.br t (legK s G D) gn dn (List.range dn) (by simp)).1
  obtain ⟨c9, hc9⟩ : ∃ z, Hid (L.getD gk 0 = z) := ⟨_, Lib.hid rfl⟩
  obtain ⟨lo9, hlo⟩ : ∃ z, Hid (((legK s G D kk).bd * (legK s G D kk).s + ((legK s G D kk).d - (legK s G D kk).bd) * (t - secT D kk)) / (legK s G D kk).s = z) := ⟨_, Lib.hid rfl⟩
  obtain ⟨hi9, hhi⟩ : ∃ z, Hid (depV (legK s G D kk) (t - secT D kk) = z) := ⟨_, Lib.hid rfl⟩
  obtain ⟨v9, hv9⟩ : ∃ z, Hid (escV r s hi9 = z) := ⟨_, Lib.hid rfl⟩
  have hkD : kk < D.length := h1.1
  have hy := legK_ok hok.out hkD
  have e30 : D[kk].s = (legK s G D kk).s := by show _ = (D.getD kk default).s; rw [getD_leE hkD]
  have hend2 := h1.2.2
  rw [secT_succ hkD, e30] at hend2
  have hdb := dep_bd (q := t - secT D kk) hy (by omega) (by omega)
  rw [hhi.out] at hdb
  obtain ⟨_, _, _, _, _, d0, d1⟩ := hdb
  have hsu := hok.out.su
  have hvb := escV_bd hru.out hsu.1 hsu.2 d0 d1
  rw [hv9.out] at hvb
  have hgG : gk < gn := by have := hgn.out; omega
  have hcb : 0 ≤ c9 ∧ c9 ≤ 60 * 124400000000000 := by
    have h := (conT_snocL r.br t (legC s G D) gn dn (List.range dn) (by simp)).2 (legC_ok hok.out) (leg_short hok.out hS9) hbr.1 hbr.2 t0 gk
    rw [conT_range (by have := hdn.out; omega), hL.out, hc9.out] at h
    have hd6 : dn ≤ 60 := by have := hok.out.d6; have := hdn.out; omega
    omega
  have hsum : c9 + v9 = am := by
    rw [hdn.out.symm, hgn.out.symm, hL.out, hc9.out, hhi.out, hv9.out] at hV
    omega
  have hws : IntKind.i64.wrap (c9 + v9) = am := by rw [IntWalk.i64_in _ (by omega)]; exact hsum
  have q0 : ¬ (gk : Int) < 0 := by omega
  have q1 : (gk : Int) < (gn : Int) := by omega
  clear h1 h2 h3 h4 hV hend2 hy e30 hvb hcb hsum
  go_enter Tryz.func37, Tryz.ntmps37
  go_wp2_with fail
  refine (refGasAt_is nm s G D A B gn gc dn dc t gk _ hgn hdn hok (Lib.hid (hG.out.below (by (repeat (first | (with_reducible refine Below.drew ?_) | (with_reducible refine below_drewN ?_ _) | (with_reducible refine Below.alloc ?_ (by first | omega | (simp; done) | (simp; omega) | (simp at *; omega)) _) | (with_reducible refine Below.setCell ?_ (by first | omega | (simp; done) | (simp; omega) | (simp at *; omega)) _) | (with_reducible exact Below.refl _ _) | (with_reducible assumption) | (with_reducible refine Below.trans ?_ (Below.mono (by assumption) (by first | omega | (simp; done) | (simp; omega) | (simp at *; omega))))))))) (Lib.hid (hD.out.below (by (repeat (first | (with_reducible refine Below.drew ?_) | (with_reducible refine below_drewN ?_ _) | (with_reducible refine Below.alloc ?_ (by first | omega | (simp; done) | (simp; omega) | (simp at *; omega)) _) | (with_reducible refine Below.setCell ?_ (by first | omega | (simp; done) | (simp; omega) | (simp at *; omega)) _) | (with_reducible exact Below.refl _ _) | (with_reducible assumption) | (with_reducible refine Below.trans ?_ (Below.mono (by assumption) (by first | omega | (simp; done) | (simp; omega) | (simp at *; omega))))))))) (by omega) ht9 HGA).mono ?_
  rintro e x1 ⟨rfl, hb1⟩
  have hc1 : Below w.heap.size w x1 := (((Below.refl _ _).alloc (by first | exact Nat.le_refl _ | (simp; done) | (simp; omega)) _).alloc (by first | exact Nat.le_refl _ | (simp; done) | (simp; omega)) _).trans (hb1.mono (by first | exact Nat.le_refl _ | (simp; done) | (simp; omega)))
  have hB1 : Below w.heap.size w x1 := hc1
  have zu1 := hB1.size
  have PB : Hid (BlkF x1 w.heap.size (w.heap.size) [.string nm, .int .i64 s, .slice A gn gc, .slice B dn dc]) := Lib.hid (((BlkF.made (B := w.heap.size) w [.string nm, .int .i64 s, .slice A gn gc, .slice B dn dc] 25 (by first | exact Nat.le_refl _ | (simp; done) | (simp; omega))).below ((Below.refl _ _).alloc (Nat.le_refl _) _)).below hb1)
  have zPB1 := PB.out.lt
  have RB : Hid (BlkF x1 w.heap.size (w.heap.size + 1) [.slice AT tn tc, .int .i64 r.a, .int .i64 r.b, .int .i64 r.nc, .int .i64 r.dn, .int .i64 r.br, .int .i64 r.em, .int .i64 r.pa, .int .i64 r.sc]) := Lib.hid (by have := (BlkF.made (B := w.heap.size) (w.alloc (.cells #[.string nm, .int .i64 s, .slice A gn gc, .slice B dn dc] 25)) [.slice AT tn tc, .int .i64 r.a, .int .i64 r.b, .int .i64 r.nc, .int .i64 r.dn, .int .i64 r.br, .int .i64 r.em, .int .i64 r.pa, .int .i64 r.sc] 30 (by first | exact Nat.le_refl _ | (simp; done) | (simp; omega))).below hb1; simpa using this)
  have zRB1 := RB.out.lt
  clear hb1
  obtain ⟨PB_1_0, PB_1_1, PB_1_2, PB_1_3⟩ := b4 PB.out
  have lPB_1 := PB.out.lt
  have nPB_1 : x1.heap.size ≠ w.heap.size := by omega
  have mPB_1 : w.heap.size ≠ x1.heap.size := by omega
  obtain ⟨RB_1_0, RB_1_1, RB_1_2, RB_1_3, RB_1_4, RB_1_5, RB_1_6, RB_1_7, RB_1_8⟩ := b9 RB.out
  have lRB_1 := RB.out.lt
  have nRB_1 : x1.heap.size ≠ w.heap.size + 1 := by omega
  have mRB_1 : w.heap.size + 1 ≠ x1.heap.size := by omega
  go_upto_region 2 with (fail)
  have HS : Hid (∀ y, Below x1.heap.size x1 y → y.cell? ⟨w.heap.size, 0, none⟩ = some (.string nm) ∧ y.cell? ⟨w.heap.size, 1, none⟩ = some (.int .i64 s) ∧ y.cell? ⟨w.heap.size, 2, none⟩ = some (.slice A gn gc) ∧ y.cell? ⟨w.heap.size, 3, none⟩ = some (.slice B dn dc) ∧ y.cell? ⟨w.heap.size + 1, 0, none⟩ = some (.slice AT tn tc) ∧ y.cell? ⟨w.heap.size + 1, 1, none⟩ = some (.int .i64 r.a) ∧ y.cell? ⟨w.heap.size + 1, 2, none⟩ = some (.int .i64 r.b) ∧ y.cell? ⟨w.heap.size + 1, 3, none⟩ = some (.int .i64 r.nc) ∧ y.cell? ⟨w.heap.size + 1, 4, none⟩ = some (.int .i64 r.dn) ∧ y.cell? ⟨w.heap.size + 1, 5, none⟩ = some (.int .i64 r.br) ∧ y.cell? ⟨w.heap.size + 1, 6, none⟩ = some (.int .i64 r.em) ∧ y.cell? ⟨w.heap.size + 1, 7, none⟩ = some (.int .i64 r.pa) ∧ y.cell? ⟨w.heap.size + 1, 8, none⟩ = some (.int .i64 r.sc)) := Lib.hid fun y hy => ⟨(hy.cell (p := ⟨w.heap.size, 0, none⟩) lPB_1).trans PB_1_0, (hy.cell (p := ⟨w.heap.size, 1, none⟩) lPB_1).trans PB_1_1, (hy.cell (p := ⟨w.heap.size, 2, none⟩) lPB_1).trans PB_1_2, (hy.cell (p := ⟨w.heap.size, 3, none⟩) lPB_1).trans PB_1_3, (hy.cell (p := ⟨w.heap.size + 1, 0, none⟩) lRB_1).trans RB_1_0, (hy.cell (p := ⟨w.heap.size + 1, 1, none⟩) lRB_1).trans RB_1_1, (hy.cell (p := ⟨w.heap.size + 1, 2, none⟩) lRB_1).trans RB_1_2, (hy.cell (p := ⟨w.heap.size + 1, 3, none⟩) lRB_1).trans RB_1_3, (hy.cell (p := ⟨w.heap.size + 1, 4, none⟩) lRB_1).trans RB_1_4, (hy.cell (p := ⟨w.heap.size + 1, 5, none⟩) lRB_1).trans RB_1_5, (hy.cell (p := ⟨w.heap.size + 1, 6, none⟩) lRB_1).trans RB_1_6, (hy.cell (p := ⟨w.heap.size + 1, 7, none⟩) lRB_1).trans RB_1_7, (hy.cell (p := ⟨w.heap.size + 1, 8, none⟩) lRB_1).trans RB_1_8⟩
  refine wp_region_held_drew (S := (fun w' => w'.cell? ⟨w.heap.size, 0, none⟩ = some (.string nm) ∧ w'.cell? ⟨w.heap.size, 1, none⟩ = some (.int .i64 s) ∧ w'.cell? ⟨w.heap.size, 2, none⟩ = some (.slice A gn gc) ∧ w'.cell? ⟨w.heap.size, 3, none⟩ = some (.slice B dn dc) ∧ w'.cell? ⟨w.heap.size + 1, 0, none⟩ = some (.slice AT tn tc) ∧ w'.cell? ⟨w.heap.size + 1, 1, none⟩ = some (.int .i64 r.a) ∧ w'.cell? ⟨w.heap.size + 1, 2, none⟩ = some (.int .i64 r.b) ∧ w'.cell? ⟨w.heap.size + 1, 3, none⟩ = some (.int .i64 r.nc) ∧ w'.cell? ⟨w.heap.size + 1, 4, none⟩ = some (.int .i64 r.dn) ∧ w'.cell? ⟨w.heap.size + 1, 5, none⟩ = some (.int .i64 r.br) ∧ w'.cell? ⟨w.heap.size + 1, 6, none⟩ = some (.int .i64 r.em) ∧ w'.cell? ⟨w.heap.size + 1, 7, none⟩ = some (.int .i64 r.pa) ∧ w'.cell? ⟨w.heap.size + 1, 8, none⟩ = some (.int .i64 r.sc))) (by kernel_rfl) (HS.out _ (Below.refl _ _).drew) (fun hHeld => ?_)
  have hT0 : Below x1.heap.size x1 x1.drew := (Below.refl _ _).drew
  generalize hdr : x1.drew = y1v0 at *
  clear hdr
  refine tkH 0 ⟨some 12, _, _, _, _, _⟩ ?_ rfl ?_ (by assumption) ?_
  rotate_left
  · (intro w hSw; (try dsimp only at hSw); go_simp; all_goals with_reducible rfl)
  try simp only [Act.put, sA, sB, sC]
  refine tkH 1 ⟨some 13, _, _, _, _, _⟩ ?_ rfl ?_ (by assumption) ?_
  rotate_left
  · (intro w hSw; (try dsimp only at hSw); go_simp; all_goals with_reducible rfl)
  try simp only [Act.put, sA, sB, sC]
  refine tkH 2 ⟨some 14, _, _, _, _, _⟩ ?_ rfl ?_ (by assumption) ?_
  rotate_left
  · (intro w hSw; (try dsimp only at hSw); go_simp; all_goals with_reducible rfl)
  try simp only [Act.put, sA, sB, sC]
  refine tkH 3 ⟨some 15, _, _, _, _, _⟩ ?_ rfl ?_ (by assumption) ?_
  rotate_left
  · (intro w hSw; (try dsimp only at hSw); go_simp; all_goals with_reducible rfl)
  try simp only [Act.put, sA, sB, sC]
  refine tkH 4 ⟨some 16, _, _, _, _, _⟩ ?_ rfl ?_ (by assumption) ?_
  rotate_left
  · (intro w hSw; (try dsimp only at hSw); go_simp; all_goals with_reducible rfl)
  try simp only [Act.put, sA, sB, sC]
  refine tkH 6 ⟨some 18, _, _, _, _, _⟩ ?_ rfl ?_ (by assumption) ?_
  rotate_left
  · (intro w hSw; (try dsimp only at hSw); go_simp; all_goals with_reducible rfl)
  try simp only [Act.put, sA, sB, sC]
  refine tkH 9 ⟨some 21, _, _, _, _, _⟩ ?_ rfl ?_ (by assumption) ?_
  rotate_left
  · (intro w hSw; (try dsimp only at hSw); go_simp; all_goals with_reducible rfl)
  try simp only [Act.put, sA, sB, sC]
  refine tkH 10 ⟨some 22, _, _, _, _, _⟩ ?_ rfl ?_ (by assumption) ?_
  rotate_left
  · (intro w hSw; (try dsimp only at hSw); go_simp; all_goals with_reducible rfl)
  try simp only [Act.put, sA, sB, sC]
  refine tkH 11 ⟨some 23, _, _, _, _, _⟩ ?_ rfl ?_ (by assumption) ?_
  rotate_left
  · (intro w hSw; (try dsimp only at hSw); go_simp; all_goals with_reducible rfl)
  try simp only [Act.put, sA, sB, sC]
  refine tkH 12 ⟨some 24, _, _, _, _, _⟩ ?_ rfl ?_ (by assumption) ?_
  rotate_left
  · (intro w hSw; (try dsimp only at hSw); go_simp; all_goals with_reducible rfl)
  try simp only [Act.put, sA, sB, sC]
  refine tkH 14 ⟨some 26, _, _, _, _, _⟩ ?_ rfl ?_ (by assumption) ?_
  rotate_left
  · (intro w hSw; (try dsimp only at hSw); go_simp; all_goals with_reducible rfl)
  try simp only [Act.put, sA, sB, sC]
  refine wpAnyH_ready (rs := [5]) (by kernel_rfl) (by simp) ?_
  refine AllReadyH.cons rfl (fun K hK => ?_) (AllReadyH.nil)
  go_simp
  refine (refConsumedAt_is nm s G D A B gn gc dn dc r.br t _ hgn hdn hok (Lib.hid (hG.out.below (hB1.trans (hT0.mono hB1.size)))) (Lib.hid (hD.out.below (hB1.trans (hT0.mono hB1.size)))) hbr.1 hbr.2 t0 t1 hS9).mono ?_
  rintro e y1v1 ⟨C, rfl, hsC, hby1v0⟩
  have hT1 : Below x1.heap.size x1 y1v1 := hT0.trans (hby1v0.mono hT0.size)
  rw [hL.out] at hsC
  have HC1 := Lib.hid hsC
  clear hsC
  clear hby1v0
  go_wp2_with fail
  refine hK.out _ _ (HS.out _ hT1) (fun hHeld => ?_)
  clear hK K
  try simp only [Act.put, sA, sB, sC]
  refine tkH 7 ⟨some 19, _, _, _, _, _⟩ ?_ rfl ?_ (by assumption) ?_
  rotate_left
  · (intro w hSw; (try dsimp only at hSw); go_simp; all_goals with_reducible rfl)
  try simp only [Act.put, sA, sB, sC]
  refine wpAnyH_ready (rs := [8, 13]) (by kernel_rfl) (by simp) ?_
  refine AllReadyH.cons rfl (fun K hK => ?_) (AllReadyH.cons rfl (fun K hK => ?_) (AllReadyH.nil))
  · skip
    have cl : y1v1.cell? ⟨C, gk, none⟩ = some (.int .i64 c9) := sl_int HC1.out (by omega) hc9.out
    go_simp
    go_wp2_with fail
    refine hK.out _ _ (HS.out _ hT1) (fun hHeld => ?_)
    clear hK K
    try simp only [Act.put, sA, sB, sC]
    clear cl
    obtain ⟨y1v2, rfl⟩ : ∃ z, z = y1v1 := ⟨_, rfl⟩
    have hT2 := hT1
    refine wpAnyH_ready (rs := [13]) (by kernel_rfl) (by simp) ?_
    refine AllReadyH.cons rfl (fun K hK => ?_) (AllReadyH.nil)
    go_simp
    refine (refPoints_is nm s G D A B gn gc dn dc _ hgn hdn hok (Lib.hid (hG.out.below (hB1.trans (hT2.mono hB1.size)))) (Lib.hid (hD.out.below (hB1.trans (hT2.mono hB1.size))))).mono ?_
    rintro e y1v3 ⟨P1, pc1, rfl, hsP, hby1v2⟩
    have hT3 : Below x1.heap.size x1 y1v3 := hT2.trans (hby1v2.mono hT2.size)
    replace HC1 := Lib.hid (HC1.out.below hby1v2)
    have HP1 := Lib.hid hsP
    clear hsP
    clear hby1v2
    go_wp2_with fail
    refine hK.out _ _ (HS.out _ hT3) (fun hHeld => ?_)
    clear hK K
    try simp only [Act.put, sA, sB, sC]
    refine wpAnyH_ready (rs := [15]) (by kernel_rfl) (by simp) ?_
    refine AllReadyH.cons rfl (fun K hK => ?_) (AllReadyH.nil)
    go_simp
    refine (refDepthAt_is nm s G D P1 dn (dn + 1) pc1 kk t lo9 hi9 _ hdn rfl hok HP1 hk hpre hbeg hend hlo hhi).mono ?_
    rintro e y1v4 ⟨rfl, hby1v3⟩
    have hT4 : Below x1.heap.size x1 y1v4 := hT3.trans (hby1v3.mono hT3.size)
    replace HC1 := Lib.hid (HC1.out.below hby1v3)
    replace HP1 := Lib.hid (HP1.out.below hby1v3)
    clear hby1v3
    go_wp2_with fail
    refine hK.out _ _ (HS.out _ hT4) (fun hHeld => ?_)
    clear hK K
    try simp only [Act.put, sA, sB, sC]
    refine tkH 16 ⟨some 28, _, _, _, _, _⟩ ?_ rfl ?_ (by assumption) ?_
    rotate_left
    · (intro w hSw; (try dsimp only at hSw); go_simp; all_goals with_reducible rfl)
    try simp only [Act.put, sA, sB, sC]
    refine wpAnyH_ready (rs := [17]) (by kernel_rfl) (by simp) ?_
    refine AllReadyH.cons rfl (fun K hK => ?_) (AllReadyH.nil)
    go_simp
    refine (refEscape_is T r AT tn tc s hi9 v9 _ hru hsu.1 hsu.2 d0 d1 hv9).mono ?_
    rintro e y1v5 ⟨rfl, hby1v4⟩
    have hT5 : Below x1.heap.size x1 y1v5 := hT4.trans (hby1v4.mono hT4.size)
    replace HC1 := Lib.hid (HC1.out.below hby1v4)
    replace HP1 := Lib.hid (HP1.out.below hby1v4)
    clear hby1v4
    go_wp2_with fail
    refine hK.out _ _ (HS.out _ hT5) (fun hHeld => ?_)
    clear hK K
    try simp only [Act.put, sA, sB, sC]
    refine tkH 18 ⟨some 30, _, _, _, _, _⟩ ?_ rfl ?_ (by assumption) ?_
    rotate_left
    · (intro w hSw; (try dsimp only at hSw); go_simp; all_goals with_reducible rfl)
    try simp only [Act.put, sA, sB, sC]
    refine tkH 19 ⟨some 6, _, _, _, _, _⟩ ?_ rfl ?_ (by assumption) ?_
    rotate_left
    · (intro w hSw; (try dsimp only at hSw); go_simp; all_goals with_reducible rfl)
    try simp only [Act.put, sA, sB, sC]
    refine tkH 20 ⟨some 7, _, _, _, _, _⟩ ?_ rfl ?_ (by assumption) ?_
    rotate_left
    · (intro w hSw; (try dsimp only at hSw); go_simp; all_goals with_reducible rfl)
    try simp only [Act.put, sA, sB, sC]
    refine wpAnyH_done (by kernel_rfl) ?_ _
    clear hHeld HS
    have hTz := hB1.trans (hT5.mono hB1.size)
    go_wp2
    go_ret2
    exact ⟨rfl, hTz⟩
  · skip
    go_simp
    refine (refPoints_is nm s G D A B gn gc dn dc _ hgn hdn hok (Lib.hid (hG.out.below (hB1.trans (hT1.mono hB1.size)))) (Lib.hid (hD.out.below (hB1.trans (hT1.mono hB1.size))))).mono ?_
    rintro e y1v2 ⟨P1, pc1, rfl, hsP, hby1v1⟩
    have hT2 : Below x1.heap.size x1 y1v2 := hT1.trans (hby1v1.mono hT1.size)
    replace HC1 := Lib.hid (HC1.out.below hby1v1)
    have HP1 := Lib.hid hsP
    clear hsP
    clear hby1v1
    go_wp2_with fail
    refine hK.out _ _ (HS.out _ hT2) (fun hHeld => ?_)
    clear hK K
    try simp only [Act.put, sA, sB, sC]
    refine wpAnyH_ready (rs := [8, 15]) (by kernel_rfl) (by simp) ?_
    refine AllReadyH.cons rfl (fun K hK => ?_) (AllReadyH.cons rfl (fun K hK => ?_) (AllReadyH.nil))
    · skip
      have cl : y1v2.cell? ⟨C, gk, none⟩ = some (.int .i64 c9) := sl_int HC1.out (by omega) hc9.out
      go_simp
      go_wp2_with fail
      refine hK.out _ _ (HS.out _ hT2) (fun hHeld => ?_)
      clear hK K
      try simp only [Act.put, sA, sB, sC]
      clear cl
      obtain ⟨y1v3, rfl⟩ : ∃ z, z = y1v2 := ⟨_, rfl⟩
      have hT3 := hT2
      refine wpAnyH_ready (rs := [15]) (by kernel_rfl) (by simp) ?_
      refine AllReadyH.cons rfl (fun K hK => ?_) (AllReadyH.nil)
      go_simp
      refine (refDepthAt_is nm s G D P1 dn (dn + 1) pc1 kk t lo9 hi9 _ hdn rfl hok HP1 hk hpre hbeg hend hlo hhi).mono ?_
      rintro e y1v4 ⟨rfl, hby1v3⟩
      have hT4 : Below x1.heap.size x1 y1v4 := hT3.trans (hby1v3.mono hT3.size)
      replace HC1 := Lib.hid (HC1.out.below hby1v3)
      replace HP1 := Lib.hid (HP1.out.below hby1v3)
      clear hby1v3
      go_wp2_with fail
      refine hK.out _ _ (HS.out _ hT4) (fun hHeld => ?_)
      clear hK K
      try simp only [Act.put, sA, sB, sC]
      refine tkH 16 ⟨some 28, _, _, _, _, _⟩ ?_ rfl ?_ (by assumption) ?_
      rotate_left
      · (intro w hSw; (try dsimp only at hSw); go_simp; all_goals with_reducible rfl)
      try simp only [Act.put, sA, sB, sC]
      refine wpAnyH_ready (rs := [17]) (by kernel_rfl) (by simp) ?_
      refine AllReadyH.cons rfl (fun K hK => ?_) (AllReadyH.nil)
      go_simp
      refine (refEscape_is T r AT tn tc s hi9 v9 _ hru hsu.1 hsu.2 d0 d1 hv9).mono ?_
      rintro e y1v5 ⟨rfl, hby1v4⟩
      have hT5 : Below x1.heap.size x1 y1v5 := hT4.trans (hby1v4.mono hT4.size)
      replace HC1 := Lib.hid (HC1.out.below hby1v4)
      replace HP1 := Lib.hid (HP1.out.below hby1v4)
      clear hby1v4
      go_wp2_with fail
      refine hK.out _ _ (HS.out _ hT5) (fun hHeld => ?_)
      clear hK K
      try simp only [Act.put, sA, sB, sC]
      refine tkH 18 ⟨some 30, _, _, _, _, _⟩ ?_ rfl ?_ (by assumption) ?_
      rotate_left
      · (intro w hSw; (try dsimp only at hSw); go_simp; all_goals with_reducible rfl)
      try simp only [Act.put, sA, sB, sC]
      refine tkH 19 ⟨some 6, _, _, _, _, _⟩ ?_ rfl ?_ (by assumption) ?_
      rotate_left
      · (intro w hSw; (try dsimp only at hSw); go_simp; all_goals with_reducible rfl)
      try simp only [Act.put, sA, sB, sC]
      refine tkH 20 ⟨some 7, _, _, _, _, _⟩ ?_ rfl ?_ (by assumption) ?_
      rotate_left
      · (intro w hSw; (try dsimp only at hSw); go_simp; all_goals with_reducible rfl)
      try simp only [Act.put, sA, sB, sC]
      refine wpAnyH_done (by kernel_rfl) ?_ _
      clear hHeld HS
      have hTz := hB1.trans (hT5.mono hB1.size)
      go_wp2
      go_ret2
      exact ⟨rfl, hTz⟩
    · skip
      go_simp
      refine (refDepthAt_is nm s G D P1 dn (dn + 1) pc1 kk t lo9 hi9 _ hdn rfl hok HP1 hk hpre hbeg hend hlo hhi).mono ?_
      rintro e y1v3 ⟨rfl, hby1v2⟩
      have hT3 : Below x1.heap.size x1 y1v3 := hT2.trans (hby1v2.mono hT2.size)
      replace HC1 := Lib.hid (HC1.out.below hby1v2)
      replace HP1 := Lib.hid (HP1.out.below hby1v2)
      clear hby1v2
      go_wp2_with fail
      refine hK.out _ _ (HS.out _ hT3) (fun hHeld => ?_)
      clear hK K
      try simp only [Act.put, sA, sB, sC]
      refine tkH 16 ⟨some 28, _, _, _, _, _⟩ ?_ rfl ?_ (by assumption) ?_
      rotate_left
      · (intro w hSw; (try dsimp only at hSw); go_simp; all_goals with_reducible rfl)
      try simp only [Act.put, sA, sB, sC]
      refine wpAnyH_ready (rs := [8, 17]) (by kernel_rfl) (by simp) ?_
      refine AllReadyH.cons rfl (fun K hK => ?_) (AllReadyH.cons rfl (fun K hK => ?_) (AllReadyH.nil))
      · skip
        have cl : y1v3.cell? ⟨C, gk, none⟩ = some (.int .i64 c9) := sl_int HC1.out (by omega) hc9.out
        go_simp
        go_wp2_with fail
        refine hK.out _ _ (HS.out _ hT3) (fun hHeld => ?_)
        clear hK K
        try simp only [Act.put, sA, sB, sC]
        clear cl
        obtain ⟨y1v4, rfl⟩ : ∃ z, z = y1v3 := ⟨_, rfl⟩
        have hT4 := hT3
        refine wpAnyH_ready (rs := [17]) (by kernel_rfl) (by simp) ?_
        refine AllReadyH.cons rfl (fun K hK => ?_) (AllReadyH.nil)
        go_simp
        refine (refEscape_is T r AT tn tc s hi9 v9 _ hru hsu.1 hsu.2 d0 d1 hv9).mono ?_
        rintro e y1v5 ⟨rfl, hby1v4⟩
        have hT5 : Below x1.heap.size x1 y1v5 := hT4.trans (hby1v4.mono hT4.size)
        replace HC1 := Lib.hid (HC1.out.below hby1v4)
        replace HP1 := Lib.hid (HP1.out.below hby1v4)
        clear hby1v4
        go_wp2_with fail
        refine hK.out _ _ (HS.out _ hT5) (fun hHeld => ?_)
        clear hK K
        try simp only [Act.put, sA, sB, sC]
        refine tkH 18 ⟨some 30, _, _, _, _, _⟩ ?_ rfl ?_ (by assumption) ?_
        rotate_left
        · (intro w hSw; (try dsimp only at hSw); go_simp; all_goals with_reducible rfl)
        try simp only [Act.put, sA, sB, sC]
        refine tkH 19 ⟨some 6, _, _, _, _, _⟩ ?_ rfl ?_ (by assumption) ?_
        rotate_left
        · (intro w hSw; (try dsimp only at hSw); go_simp; all_goals with_reducible rfl)
        try simp only [Act.put, sA, sB, sC]
        refine tkH 20 ⟨some 7, _, _, _, _, _⟩ ?_ rfl ?_ (by assumption) ?_
        rotate_left
        · (intro w hSw; (try dsimp only at hSw); go_simp; all_goals with_reducible rfl)
        try simp only [Act.put, sA, sB, sC]
        refine wpAnyH_done (by kernel_rfl) ?_ _
        clear hHeld HS
        have hTz := hB1.trans (hT5.mono hB1.size)
        go_wp2
        go_ret2
        exact ⟨rfl, hTz⟩
      · skip
        go_simp
        refine (refEscape_is T r AT tn tc s hi9 v9 _ hru hsu.1 hsu.2 d0 d1 hv9).mono ?_
        rintro e y1v4 ⟨rfl, hby1v3⟩
        have hT4 : Below x1.heap.size x1 y1v4 := hT3.trans (hby1v3.mono hT3.size)
        replace HC1 := Lib.hid (HC1.out.below hby1v3)
        replace HP1 := Lib.hid (HP1.out.below hby1v3)
        clear hby1v3
        go_wp2_with fail
        refine hK.out _ _ (HS.out _ hT4) (fun hHeld => ?_)
        clear hK K
        try simp only [Act.put, sA, sB, sC]
        refine tkH 19 ⟨some 6, _, _, _, _, _⟩ ?_ rfl ?_ (by assumption) ?_
        rotate_left
        · (intro w hSw; (try dsimp only at hSw); go_simp; all_goals with_reducible rfl)
        try simp only [Act.put, sA, sB, sC]
        refine wpAnyH_ready (rs := [8]) (by kernel_rfl) (by simp) ?_
        refine AllReadyH.cons rfl (fun K hK => ?_) (AllReadyH.nil)
        have cl : y1v4.cell? ⟨C, gk, none⟩ = some (.int .i64 c9) := sl_int HC1.out (by omega) hc9.out
        go_simp
        go_wp2_with fail
        refine hK.out _ _ (HS.out _ hT4) (fun hHeld => ?_)
        clear hK K
        try simp only [Act.put, sA, sB, sC]
        clear cl
        obtain ⟨y1v5, rfl⟩ : ∃ z, z = y1v4 := ⟨_, rfl⟩
        have hT5 := hT4
        refine tkH 18 ⟨some 30, _, _, _, _, _⟩ ?_ rfl ?_ (by assumption) ?_
        rotate_left
        · (intro w hSw; (try dsimp only at hSw); go_simp; all_goals with_reducible rfl)
        try simp only [Act.put, sA, sB, sC]
        refine tkH 20 ⟨some 7, _, _, _, _, _⟩ ?_ rfl ?_ (by assumption) ?_
        rotate_left
        · (intro w hSw; (try dsimp only at hSw); go_simp; all_goals with_reducible rfl)
        try simp only [Act.put, sA, sB, sC]
        refine wpAnyH_done (by kernel_rfl) ?_ _
        clear hHeld HS
        have hTz := hB1.trans (hT5.mono hB1.size)
        go_wp2
        go_ret2
        exact ⟨rfl, hTz⟩
set_option maxHeartbeats 1000000 in
theorem followed_err (nm : ByteArray) (s : Int) (G : List Ga) (D : List Le) (A B : Option Addr) (gn gc dn dc : Nat) (T : List Ox) (r : Ru) (AT : Option Addr) (tn tc : Nat) (N : Nat) (E0 E1 E : Int) (w : World) (hz6 : nm.size ≤ 1000000) (hgn : Hid (gn = G.length)) (hgl : gn ≤ 9223372036854775807) (hdn : Hid (dn = D.length)) (hdl : dn ≤ 9223372036854775807) (hG : Hid (SlRows gaV 2 w A G)) (hD : Hid (SlRows leV 3 w B D)) (htn : Hid (tn = T.length)) (htl : tn ≤ 9223372036854775807) (hT : Hid (SlRows oxV 2 w AT T)) (hE0 : Hid (plnP nm s G D = (N, E0))) (hE1 : Hid (ruE T r = E1)) (hE : Hid (firE [E0, E1] = E)) (hnb : (E != 0) = true) :
    Calls Tryz.prog 11 #[.agg #[.string nm, .int .i64 s, .slice A gn gc, .slice B dn dc], .agg #[.slice AT tn tc, .int .i64 r.a, .int .i64 r.b, .int .i64 r.nc, .int .i64 r.dn, .int .i64 r.br, .int .i64 r.em, .int .i64 r.pa, .int .i64 r.sc]] w fun e w' => e = .returned (.int .i64 E) ∧ Below w.heap.size w w' := by
  go_enter Tryz.func11, Tryz.ntmps11
  go_wp2_with fail
  refine (refBoth_any nm s G D A B gn gc dn dc T r AT tn tc N E0 E1 E _ hz6 hgn hgl hdn hdl (Lib.hid (hG.out.below (by (repeat (first | (with_reducible refine Below.drew ?_) | (with_reducible refine below_drewN ?_ _) | (with_reducible refine Below.alloc ?_ (by first | omega | (simp; done) | (simp; omega) | (simp at *; omega)) _) | (with_reducible refine Below.setCell ?_ (by first | omega | (simp; done) | (simp; omega) | (simp at *; omega)) _) | (with_reducible exact Below.refl _ _) | (with_reducible assumption) | (with_reducible refine Below.trans ?_ (Below.mono (by assumption) (by first | omega | (simp; done) | (simp; omega) | (simp at *; omega))))))))) (Lib.hid (hD.out.below (by (repeat (first | (with_reducible refine Below.drew ?_) | (with_reducible refine below_drewN ?_ _) | (with_reducible refine Below.alloc ?_ (by first | omega | (simp; done) | (simp; omega) | (simp at *; omega)) _) | (with_reducible refine Below.setCell ?_ (by first | omega | (simp; done) | (simp; omega) | (simp at *; omega)) _) | (with_reducible exact Below.refl _ _) | (with_reducible assumption) | (with_reducible refine Below.trans ?_ (Below.mono (by assumption) (by first | omega | (simp; done) | (simp; omega) | (simp at *; omega))))))))) hE0 htn htl (Lib.hid (hT.out.below (by (repeat (first | (with_reducible refine Below.drew ?_) | (with_reducible refine below_drewN ?_ _) | (with_reducible refine Below.alloc ?_ (by first | omega | (simp; done) | (simp; omega) | (simp at *; omega)) _) | (with_reducible refine Below.setCell ?_ (by first | omega | (simp; done) | (simp; omega) | (simp at *; omega)) _) | (with_reducible exact Below.refl _ _) | (with_reducible assumption) | (with_reducible refine Below.trans ?_ (Below.mono (by assumption) (by first | omega | (simp; done) | (simp; omega) | (simp at *; omega))))))))) hE1 hE).mono ?_
  rintro e x1 ⟨rfl, hb1⟩
  have hc1 : Below w.heap.size w x1 := (((Below.refl _ _).alloc (by first | exact Nat.le_refl _ | (simp; done) | (simp; omega)) _).alloc (by first | exact Nat.le_refl _ | (simp; done) | (simp; omega)) _).trans (hb1.mono (by first | exact Nat.le_refl _ | (simp; done) | (simp; omega)))
  have hB1 : Below w.heap.size w x1 := hc1
  have zu1 := hB1.size
  have PB : Hid (BlkF x1 w.heap.size (w.heap.size) [.string nm, .int .i64 s, .slice A gn gc, .slice B dn dc]) := Lib.hid (((BlkF.made (B := w.heap.size) w [.string nm, .int .i64 s, .slice A gn gc, .slice B dn dc] 25 (by first | exact Nat.le_refl _ | (simp; done) | (simp; omega))).below ((Below.refl _ _).alloc (Nat.le_refl _) _)).below hb1)
  have zPB1 := PB.out.lt
  have RB : Hid (BlkF x1 w.heap.size (w.heap.size + 1) [.slice AT tn tc, .int .i64 r.a, .int .i64 r.b, .int .i64 r.nc, .int .i64 r.dn, .int .i64 r.br, .int .i64 r.em, .int .i64 r.pa, .int .i64 r.sc]) := Lib.hid (by have := (BlkF.made (B := w.heap.size) (w.alloc (.cells #[.string nm, .int .i64 s, .slice A gn gc, .slice B dn dc] 25)) [.slice AT tn tc, .int .i64 r.a, .int .i64 r.b, .int .i64 r.nc, .int .i64 r.dn, .int .i64 r.br, .int .i64 r.em, .int .i64 r.pa, .int .i64 r.sc] 30 (by first | exact Nat.le_refl _ | (simp; done) | (simp; omega))).below hb1; simpa using this)
  have zRB1 := RB.out.lt
  clear hb1
  obtain ⟨PB_1_0, PB_1_1, PB_1_2, PB_1_3⟩ := b4 PB.out
  have lPB_1 := PB.out.lt
  have nPB_1 : x1.heap.size ≠ w.heap.size := by omega
  have mPB_1 : w.heap.size ≠ x1.heap.size := by omega
  obtain ⟨RB_1_0, RB_1_1, RB_1_2, RB_1_3, RB_1_4, RB_1_5, RB_1_6, RB_1_7, RB_1_8⟩ := b9 RB.out
  have lRB_1 := RB.out.lt
  have nRB_1 : x1.heap.size ≠ w.heap.size + 1 := by omega
  have mRB_1 : w.heap.size + 1 ≠ x1.heap.size := by omega
  go_wp2
  go_ret
  exact ⟨rfl, hB1⟩
set_option maxHeartbeats 1000000 in
theorem followed_ok (nm : ByteArray) (s : Int) (G : List Ga) (D : List Le) (A B : Option Addr) (gn gc dn dc : Nat) (T : List Ox) (r : Ru) (AT : Option Addr) (tn tc : Nat) (N : Nat) (E0 E1 E S : Int) (w : World) (hz6 : nm.size ≤ 1000000) (hgn : Hid (gn = G.length)) (hgl : gn ≤ 9223372036854775807) (hdn : Hid (dn = D.length)) (hdl : dn ≤ 9223372036854775807) (hG : Hid (SlRows gaV 2 w A G)) (hD : Hid (SlRows leV 3 w B D)) (htn : Hid (tn = T.length)) (htl : tn ≤ 9223372036854775807) (hT : Hid (SlRows oxV 2 w AT T)) (hE0 : Hid (plnP nm s G D = (N, E0))) (hE1 : Hid (ruE T r = E1)) (hE : Hid (firE [E0, E1] = 0)) (hok : Hid (PlnOk nm s G D)) (hSS : Hid (secT D dn = S)) (hE8 : Hid ((if 20000 < S then (8 : Int) else 0) = E)) :
    Calls Tryz.prog 11 #[.agg #[.string nm, .int .i64 s, .slice A gn gc, .slice B dn dc], .agg #[.slice AT tn tc, .int .i64 r.a, .int .i64 r.b, .int .i64 r.nc, .int .i64 r.dn, .int .i64 r.br, .int .i64 r.em, .int .i64 r.pa, .int .i64 r.sc]] w fun e w' => e = .returned (.int .i64 E) ∧ Below w.heap.size w w' := by
  go_enter Tryz.func11, Tryz.ntmps11
  go_wp2_with fail
  refine (refBoth_any nm s G D A B gn gc dn dc T r AT tn tc N E0 E1 0 _ hz6 hgn hgl hdn hdl (Lib.hid (hG.out.below (by (repeat (first | (with_reducible refine Below.drew ?_) | (with_reducible refine below_drewN ?_ _) | (with_reducible refine Below.alloc ?_ (by first | omega | (simp; done) | (simp; omega) | (simp at *; omega)) _) | (with_reducible refine Below.setCell ?_ (by first | omega | (simp; done) | (simp; omega) | (simp at *; omega)) _) | (with_reducible exact Below.refl _ _) | (with_reducible assumption) | (with_reducible refine Below.trans ?_ (Below.mono (by assumption) (by first | omega | (simp; done) | (simp; omega) | (simp at *; omega))))))))) (Lib.hid (hD.out.below (by (repeat (first | (with_reducible refine Below.drew ?_) | (with_reducible refine below_drewN ?_ _) | (with_reducible refine Below.alloc ?_ (by first | omega | (simp; done) | (simp; omega) | (simp at *; omega)) _) | (with_reducible refine Below.setCell ?_ (by first | omega | (simp; done) | (simp; omega) | (simp at *; omega)) _) | (with_reducible exact Below.refl _ _) | (with_reducible assumption) | (with_reducible refine Below.trans ?_ (Below.mono (by assumption) (by first | omega | (simp; done) | (simp; omega) | (simp at *; omega))))))))) hE0 htn htl (Lib.hid (hT.out.below (by (repeat (first | (with_reducible refine Below.drew ?_) | (with_reducible refine below_drewN ?_ _) | (with_reducible refine Below.alloc ?_ (by first | omega | (simp; done) | (simp; omega) | (simp at *; omega)) _) | (with_reducible refine Below.setCell ?_ (by first | omega | (simp; done) | (simp; omega) | (simp at *; omega)) _) | (with_reducible exact Below.refl _ _) | (with_reducible assumption) | (with_reducible refine Below.trans ?_ (Below.mono (by assumption) (by first | omega | (simp; done) | (simp; omega) | (simp at *; omega))))))))) hE1 hE).mono ?_
  rintro e x1 ⟨rfl, hb1⟩
  have hc1 : Below w.heap.size w x1 := (((Below.refl _ _).alloc (by first | exact Nat.le_refl _ | (simp; done) | (simp; omega)) _).alloc (by first | exact Nat.le_refl _ | (simp; done) | (simp; omega)) _).trans (hb1.mono (by first | exact Nat.le_refl _ | (simp; done) | (simp; omega)))
  have hB1 : Below w.heap.size w x1 := hc1
  have zu1 := hB1.size
  have PB : Hid (BlkF x1 w.heap.size (w.heap.size) [.string nm, .int .i64 s, .slice A gn gc, .slice B dn dc]) := Lib.hid (((BlkF.made (B := w.heap.size) w [.string nm, .int .i64 s, .slice A gn gc, .slice B dn dc] 25 (by first | exact Nat.le_refl _ | (simp; done) | (simp; omega))).below ((Below.refl _ _).alloc (Nat.le_refl _) _)).below hb1)
  have zPB1 := PB.out.lt
  have RB : Hid (BlkF x1 w.heap.size (w.heap.size + 1) [.slice AT tn tc, .int .i64 r.a, .int .i64 r.b, .int .i64 r.nc, .int .i64 r.dn, .int .i64 r.br, .int .i64 r.em, .int .i64 r.pa, .int .i64 r.sc]) := Lib.hid (by have := (BlkF.made (B := w.heap.size) (w.alloc (.cells #[.string nm, .int .i64 s, .slice A gn gc, .slice B dn dc] 25)) [.slice AT tn tc, .int .i64 r.a, .int .i64 r.b, .int .i64 r.nc, .int .i64 r.dn, .int .i64 r.br, .int .i64 r.em, .int .i64 r.pa, .int .i64 r.sc] 30 (by first | exact Nat.le_refl _ | (simp; done) | (simp; omega))).below hb1; simpa using this)
  have zRB1 := RB.out.lt
  clear hb1
  obtain ⟨PB_1_0, PB_1_1, PB_1_2, PB_1_3⟩ := b4 PB.out
  have lPB_1 := PB.out.lt
  have nPB_1 : x1.heap.size ≠ w.heap.size := by omega
  have mPB_1 : w.heap.size ≠ x1.heap.size := by omega
  obtain ⟨RB_1_0, RB_1_1, RB_1_2, RB_1_3, RB_1_4, RB_1_5, RB_1_6, RB_1_7, RB_1_8⟩ := b9 RB.out
  have lRB_1 := RB.out.lt
  have nRB_1 : x1.heap.size ≠ w.heap.size + 1 := by omega
  have mRB_1 : w.heap.size + 1 ≠ x1.heap.size := by omega
  go_wp2_with fail
  refine (refSeconds_is nm s G D A B gn gc dn dc S _ hgn hdn hok (Lib.hid (hG.out.below (by (repeat (first | (with_reducible refine Below.drew ?_) | (with_reducible refine below_drewN ?_ _) | (with_reducible refine Below.alloc ?_ (by first | omega | (simp; done) | (simp; omega) | (simp at *; omega)) _) | (with_reducible refine Below.setCell ?_ (by first | omega | (simp; done) | (simp; omega) | (simp at *; omega)) _) | (with_reducible exact Below.refl _ _) | (with_reducible assumption) | (with_reducible refine Below.trans ?_ (Below.mono (by assumption) (by first | omega | (simp; done) | (simp; omega) | (simp at *; omega))))))))) (Lib.hid (hD.out.below (by (repeat (first | (with_reducible refine Below.drew ?_) | (with_reducible refine below_drewN ?_ _) | (with_reducible refine Below.alloc ?_ (by first | omega | (simp; done) | (simp; omega) | (simp at *; omega)) _) | (with_reducible refine Below.setCell ?_ (by first | omega | (simp; done) | (simp; omega) | (simp at *; omega)) _) | (with_reducible exact Below.refl _ _) | (with_reducible assumption) | (with_reducible refine Below.trans ?_ (Below.mono (by assumption) (by first | omega | (simp; done) | (simp; omega) | (simp at *; omega))))))))) hSS).mono ?_
  rintro e x2 ⟨rfl, hb2⟩
  have hc2 : Below x1.heap.size x1 x2 := hb2
  have hB2 : Below w.heap.size w x2 := hB1.trans (hc2.mono hB1.size)
  have zu2 := hB2.size
  replace PB := Lib.hid (PB.out.below hc2)
  replace RB := Lib.hid (RB.out.below hc2)
  clear PB_1_0 PB_1_1 PB_1_2 PB_1_3 lPB_1 nPB_1 mPB_1 RB_1_0 RB_1_1 RB_1_2 RB_1_3 RB_1_4 RB_1_5 RB_1_6 RB_1_7 RB_1_8 lRB_1 nRB_1 mRB_1
  clear hb2 hB1 zu1 hc1
  obtain ⟨PB_2_0, PB_2_1, PB_2_2, PB_2_3⟩ := b4 PB.out
  have lPB_2 := PB.out.lt
  have nPB_2 : x2.heap.size ≠ w.heap.size := by omega
  have mPB_2 : w.heap.size ≠ x2.heap.size := by omega
  obtain ⟨RB_2_0, RB_2_1, RB_2_2, RB_2_3, RB_2_4, RB_2_5, RB_2_6, RB_2_7, RB_2_8⟩ := b9 RB.out
  have lRB_2 := RB.out.lt
  have nRB_2 : x2.heap.size ≠ w.heap.size + 1 := by omega
  have mRB_2 : w.heap.size + 1 ≠ x2.heap.size := by omega
  by_cases hS2 : 20000 < S
  · have hr : Hid (8 = E) := Lib.hid (by rw [← hE8.out, if_pos hS2])
    go_wp2
    go_ret
    exact ⟨ret_int hr.out, hB2⟩
  · have hr : Hid (0 = E) := Lib.hid (by rw [← hE8.out, if_neg hS2])
    go_wp2
    go_ret
    exact ⟨ret_int hr.out, hB2⟩
theorem followed_is (nm : ByteArray) (s : Int) (G : List Ga) (D : List Le) (A B : Option Addr) (gn gc dn dc : Nat) (T : List Ox) (r : Ru) (AT : Option Addr) (tn tc : Nat) (N : Nat) (E0 E1 E2 E : Int) (w : World) (hz6 : nm.size ≤ 1000000) (hgn : Hid (gn = G.length)) (hgl : gn ≤ 9223372036854775807) (hdn : Hid (dn = D.length)) (hdl : dn ≤ 9223372036854775807) (hG : Hid (SlRows gaV 2 w A G)) (hD : Hid (SlRows leV 3 w B D)) (htn : Hid (tn = T.length)) (htl : tn ≤ 9223372036854775807) (hT : Hid (SlRows oxV 2 w AT T)) (hE0 : Hid (plnP nm s G D = (N, E0))) (hE1 : Hid (ruE T r = E1)) (hE2 : Hid ((if 20000 < secT D dn then (8 : Int) else 0) = E2)) (hE : Hid (firE [E0, E1, E2] = E)) :
    Calls Tryz.prog 11 #[.agg #[.string nm, .int .i64 s, .slice A gn gc, .slice B dn dc], .agg #[.slice AT tn tc, .int .i64 r.a, .int .i64 r.b, .int .i64 r.nc, .int .i64 r.dn, .int .i64 r.br, .int .i64 r.em, .int .i64 r.pa, .int .i64 r.sc]] w fun e w' => e = .returned (.int .i64 E) ∧ Below w.heap.size w w' := by
  by_cases h0 : firE [E0, E1] = 0
  · have ha := firE_all h0
    obtain rfl : E0 = 0 := ha _ (by simp)
    obtain rfl : E1 = 0 := ha _ (by simp)
    refine followed_ok nm s G D A B gn gc dn dc T r AT tn tc N 0 0 E _ w hz6 hgn hgl hdn hdl hG hD htn htl hT hE0 hE1 (Lib.hid h0) (Lib.hid (pln_ok hE0.out)) (Lib.hid rfl) (Lib.hid ?_)
    rw [hE2.out, ← hE.out]
    simp [firE]
  · have h2 : firE [E0, E1, E2] = firE [E0, E1] := by
      unfold firE at h0 ⊢
      revert h0
      simp only [firE]
      split <;> simp_all
    refine followed_err nm s G D A B gn gc dn dc T r AT tn tc N E0 E1 E w hz6 hgn hgl hdn hdl hG hD htn htl hT hE0 hE1 (Lib.hid (by rw [← h2]; exact hE.out)) ?_
    rw [← hE.out, h2]
    simpa using h0
end Go.Proofs.YtijdphlejokijaaGreat
