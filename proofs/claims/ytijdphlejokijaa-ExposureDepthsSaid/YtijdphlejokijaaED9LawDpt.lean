import Derived.Test.YtijdphlejokijaaED9ERdp
import Derived.Test.YtijdphlejokijaaED9EAwk
import Derived.Outline
namespace Go.Proofs.Ytijdphlejokijaa
open Go.ChangeShapes Go.WideShapes Go.ChangeAt Go.RowKit
set_option linter.unusedVariables false
set_option linter.unusedSimpArgs false
attribute [local go_sem ↓] Go.wp_at_zero Go.wp_at_succ
theorem BlkF.lower {u : World} {B C b : Nat} {vs : List Value} (h : BlkF u B b vs) (hC : C ≤ B) : BlkF u C b vs := ⟨Nat.le_trans hC h.ge, h.lt, h.at', h.fz⟩
set_option maxRecDepth 100000 in
set_option maxHeartbeats 4000000 in
theorem dep_few (o h s : Int) (T : List Ox) (r : Ru) (AT : Option Addr) (tn tc : Nat)  (w : World) (htn : Hid (tn = T.length)) (htl : tn ≤ 9223372036854775807) (hT : Hid (SlRows oxV 2 w AT T)) (CT : Hid (AT = none → tn = 0 ∧ tc = 0)) (hF : Hid (fewB tn = false)) :
    Calls Try.prog 8 #[.agg #[.int .i64 o, .int .i64 h], .int .i64 s, .agg #[.slice AT tn tc, .int .i64 r.a, .int .i64 r.b, .int .i64 r.nc, .int .i64 r.dn, .int .i64 r.br, .int .i64 r.em, .int .i64 r.pa, .int .i64 r.sc]] w fun e w' => e = .returned (.bool true) ∧ Below w.heap.size w w' := by
  go_enter Try.func8, Try.ntmps8
  go_wp2_with fail
  refine (awake_any _).mono ?_
  rintro e x1 ⟨rfl, hb1⟩
  have hc1 : Below w.heap.size w x1 := (((Below.refl _ _).alloc (by first | exact Nat.le_refl _ | (simp; done) | (simp; omega)) _).alloc (by first | exact Nat.le_refl _ | (simp; done) | (simp; omega)) _).trans (hb1.mono (by first | exact Nat.le_refl _ | (simp; done) | (simp; omega)))
  have hB1 : Below w.heap.size w x1 := hc1
  have zu1 := hB1.size
  have GB : Hid (BlkF x1 w.heap.size (w.heap.size) [.int .i64 o, .int .i64 h]) := Lib.hid (((BlkF.made (B := w.heap.size) w [.int .i64 o, .int .i64 h] 72 (by first | exact Nat.le_refl _ | (simp; done) | (simp; omega))).below ((Below.refl _ _).alloc (Nat.le_refl _) _)).below hb1)
  have zGB1 := GB.out.lt
  have RB : Hid (BlkF x1 w.heap.size (w.heap.size + 1) [.slice AT tn tc, .int .i64 r.a, .int .i64 r.b, .int .i64 r.nc, .int .i64 r.dn, .int .i64 r.br, .int .i64 r.em, .int .i64 r.pa, .int .i64 r.sc]) := Lib.hid (by have := (BlkF.made (B := w.heap.size) (w.alloc (.cells #[.int .i64 o, .int .i64 h] 72)) [.slice AT tn tc, .int .i64 r.a, .int .i64 r.b, .int .i64 r.nc, .int .i64 r.dn, .int .i64 r.br, .int .i64 r.em, .int .i64 r.pa, .int .i64 r.sc] 26 (by first | exact Nat.le_refl _ | (simp; done) | (simp; omega))).below hb1; simpa using this)
  have zRB1 := RB.out.lt
  clear hb1
  obtain ⟨GB_1_0, GB_1_1⟩ := b2 GB.out
  have lGB_1 := GB.out.lt
  have nGB_1 : x1.heap.size ≠ w.heap.size := by omega
  have mGB_1 : w.heap.size ≠ x1.heap.size := by omega
  obtain ⟨RB_1_0, RB_1_1, RB_1_2, RB_1_3, RB_1_4, RB_1_5, RB_1_6, RB_1_7, RB_1_8⟩ := b9 RB.out
  have lRB_1 := RB.out.lt
  have nRB_1 : x1.heap.size ≠ w.heap.size + 1 := by omega
  have mRB_1 : w.heap.size + 1 ≠ x1.heap.size := by omega
  go_wp2_with fail
  refine (few_is r AT tn tc false _ htl hF).mono ?_
  rintro e x2 ⟨rfl, hb2⟩
  have hc2 : Below x1.heap.size x1 x2 := hb2
  have hB2 : Below w.heap.size w x2 := hB1.trans (hc2.mono hB1.size)
  have zu2 := hB2.size
  replace GB := Lib.hid (GB.out.below hc2)
  replace RB := Lib.hid (RB.out.below hc2)
  clear GB_1_0 GB_1_1 lGB_1 nGB_1 mGB_1 RB_1_0 RB_1_1 RB_1_2 RB_1_3 RB_1_4 RB_1_5 RB_1_6 RB_1_7 RB_1_8 lRB_1 nRB_1 mRB_1
  clear hb2 hB1 zu1 hc1
  obtain ⟨GB_2_0, GB_2_1⟩ := b2 GB.out
  have lGB_2 := GB.out.lt
  have nGB_2 : x2.heap.size ≠ w.heap.size := by omega
  have mGB_2 : w.heap.size ≠ x2.heap.size := by omega
  obtain ⟨RB_2_0, RB_2_1, RB_2_2, RB_2_3, RB_2_4, RB_2_5, RB_2_6, RB_2_7, RB_2_8⟩ := b9 RB.out
  have lRB_2 := RB.out.lt
  have nRB_2 : x2.heap.size ≠ w.heap.size + 1 := by omega
  have mRB_2 : w.heap.size + 1 ≠ x2.heap.size := by omega
  go_wp2
  go_ret
  exact ⟨rfl, hB2⟩
set_option maxRecDepth 100000 in
set_option maxHeartbeats 4000000 in
theorem dep_err (o h s : Int) (T : List Ox) (r : Ru) (AT : Option Addr) (tn tc : Nat) (E1 E2 E3 E : Int) (w : World) (htn : Hid (tn = T.length)) (htl : tn ≤ 9223372036854775807) (hT : Hid (SlRows oxV 2 w AT T)) (CT : Hid (AT = none → tn = 0 ∧ tc = 0)) (hF : Hid (fewB tn = true)) (hE1 : Hid (gasE o h = E1)) (hE2 : Hid (rngE s 400 1100 = E2)) (hE3 : Hid (ruE T r = E3)) (hE : Hid (firE [E1, E2, E3] = E)) (hnb : (E != 0) = true) (hne0 : (E == 0) = false) (HRD : Hid (∀ (G : Option Addr) (c : Nat) (X : World), Hid (SlRows oxV 2 X G T) → Calls Try.prog 37 #[.agg #[.int .i64 o, .int .i64 h], .int .i64 s, .agg #[.slice G tn c, .int .i64 r.a, .int .i64 r.b, .int .i64 r.nc, .int .i64 r.dn, .int .i64 r.br, .int .i64 r.em, .int .i64 r.pa, .int .i64 r.sc]] X fun e w' => e = .returned (.tuple #[.agg #[.int .i64 0, .int .i64 0], .int .i64 E]) ∧ Below X.heap.size X w')) :
    Calls Try.prog 8 #[.agg #[.int .i64 o, .int .i64 h], .int .i64 s, .agg #[.slice AT tn tc, .int .i64 r.a, .int .i64 r.b, .int .i64 r.nc, .int .i64 r.dn, .int .i64 r.br, .int .i64 r.em, .int .i64 r.pa, .int .i64 r.sc]] w fun e w' => e = .returned (.bool true) ∧ Below w.heap.size w w' := by
  have ht22 : tn ≤ 22 := fewB_le hF.out
  have ht6 : tn ≤ 1000000 := by omega
  go_enter Try.func8, Try.ntmps8
  go_wp2_with fail
  refine (awake_any _).mono ?_
  rintro e x1 ⟨rfl, hb1⟩
  have hc1 : Below w.heap.size w x1 := (((Below.refl _ _).alloc (by first | exact Nat.le_refl _ | (simp; done) | (simp; omega)) _).alloc (by first | exact Nat.le_refl _ | (simp; done) | (simp; omega)) _).trans (hb1.mono (by first | exact Nat.le_refl _ | (simp; done) | (simp; omega)))
  have hB1 : Below w.heap.size w x1 := hc1
  have zu1 := hB1.size
  have GB : Hid (BlkF x1 w.heap.size (w.heap.size) [.int .i64 o, .int .i64 h]) := Lib.hid (((BlkF.made (B := w.heap.size) w [.int .i64 o, .int .i64 h] 72 (by first | exact Nat.le_refl _ | (simp; done) | (simp; omega))).below ((Below.refl _ _).alloc (Nat.le_refl _) _)).below hb1)
  have zGB1 := GB.out.lt
  have RB : Hid (BlkF x1 w.heap.size (w.heap.size + 1) [.slice AT tn tc, .int .i64 r.a, .int .i64 r.b, .int .i64 r.nc, .int .i64 r.dn, .int .i64 r.br, .int .i64 r.em, .int .i64 r.pa, .int .i64 r.sc]) := Lib.hid (by have := (BlkF.made (B := w.heap.size) (w.alloc (.cells #[.int .i64 o, .int .i64 h] 72)) [.slice AT tn tc, .int .i64 r.a, .int .i64 r.b, .int .i64 r.nc, .int .i64 r.dn, .int .i64 r.br, .int .i64 r.em, .int .i64 r.pa, .int .i64 r.sc] 26 (by first | exact Nat.le_refl _ | (simp; done) | (simp; omega))).below hb1; simpa using this)
  have zRB1 := RB.out.lt
  clear hb1
  obtain ⟨GB_1_0, GB_1_1⟩ := b2 GB.out
  have lGB_1 := GB.out.lt
  have nGB_1 : x1.heap.size ≠ w.heap.size := by omega
  have mGB_1 : w.heap.size ≠ x1.heap.size := by omega
  obtain ⟨RB_1_0, RB_1_1, RB_1_2, RB_1_3, RB_1_4, RB_1_5, RB_1_6, RB_1_7, RB_1_8⟩ := b9 RB.out
  have lRB_1 := RB.out.lt
  have nRB_1 : x1.heap.size ≠ w.heap.size + 1 := by omega
  have mRB_1 : w.heap.size + 1 ≠ x1.heap.size := by omega
  go_wp2_with fail
  refine (few_is r AT tn tc true _ htl hF).mono ?_
  rintro e x2 ⟨rfl, hb2⟩
  have hc2 : Below x1.heap.size x1 x2 := hb2
  have hB2 : Below w.heap.size w x2 := hB1.trans (hc2.mono hB1.size)
  have zu2 := hB2.size
  replace GB := Lib.hid (GB.out.below hc2)
  replace RB := Lib.hid (RB.out.below hc2)
  clear GB_1_0 GB_1_1 lGB_1 nGB_1 mGB_1 RB_1_0 RB_1_1 RB_1_2 RB_1_3 RB_1_4 RB_1_5 RB_1_6 RB_1_7 RB_1_8 lRB_1 nRB_1 mRB_1
  clear hb2 hB1 zu1 hc1
  obtain ⟨GB_2_0, GB_2_1⟩ := b2 GB.out
  have lGB_2 := GB.out.lt
  have nGB_2 : x2.heap.size ≠ w.heap.size := by omega
  have mGB_2 : w.heap.size ≠ x2.heap.size := by omega
  obtain ⟨RB_2_0, RB_2_1, RB_2_2, RB_2_3, RB_2_4, RB_2_5, RB_2_6, RB_2_7, RB_2_8⟩ := b9 RB.out
  have lRB_2 := RB.out.lt
  have nRB_2 : x2.heap.size ≠ w.heap.size + 1 := by omega
  have mRB_2 : w.heap.size + 1 ≠ x2.heap.size := by omega
  go_upto_region 5 with (fail)
  go_cut [7, 8] from 17 (fun s7 s8 wx => ∃ b7 : Nat, s7 = .pointer (some ⟨b7, 0, none⟩) ∧ s8 = .int .i64 E ∧ Hid (BlkF wx w.heap.size b7 [.int .i64 0, .int .i64 0]) ∧ Hid (BlkF wx w.heap.size w.heap.size [.int .i64 o, .int .i64 h]) ∧ Hid (BlkF wx w.heap.size (w.heap.size + 1) [.slice AT tn tc, .int .i64 r.a, .int .i64 r.b, .int .i64 r.nc, .int .i64 r.dn, .int .i64 r.br, .int .i64 r.em, .int .i64 r.pa, .int .i64 r.sc]) ∧ Below w.heap.size w wx)
  case first =>
    have HS : Hid (∀ y, Below x2.heap.size x2 y → y.cell? ⟨w.heap.size, 0, none⟩ = some (.int .i64 o) ∧ y.cell? ⟨w.heap.size, 1, none⟩ = some (.int .i64 h) ∧ y.cell? ⟨w.heap.size + 1, 0, none⟩ = some (.slice AT tn tc) ∧ y.cell? ⟨w.heap.size + 1, 1, none⟩ = some (.int .i64 r.a) ∧ y.cell? ⟨w.heap.size + 1, 2, none⟩ = some (.int .i64 r.b) ∧ y.cell? ⟨w.heap.size + 1, 3, none⟩ = some (.int .i64 r.nc) ∧ y.cell? ⟨w.heap.size + 1, 4, none⟩ = some (.int .i64 r.dn) ∧ y.cell? ⟨w.heap.size + 1, 5, none⟩ = some (.int .i64 r.br) ∧ y.cell? ⟨w.heap.size + 1, 6, none⟩ = some (.int .i64 r.em) ∧ y.cell? ⟨w.heap.size + 1, 7, none⟩ = some (.int .i64 r.pa) ∧ y.cell? ⟨w.heap.size + 1, 8, none⟩ = some (.int .i64 r.sc)) := Lib.hid fun y hy => ⟨(hy.cell (p := ⟨w.heap.size, 0, none⟩) lGB_2).trans GB_2_0, (hy.cell (p := ⟨w.heap.size, 1, none⟩) lGB_2).trans GB_2_1, (hy.cell (p := ⟨w.heap.size + 1, 0, none⟩) lRB_2).trans RB_2_0, (hy.cell (p := ⟨w.heap.size + 1, 1, none⟩) lRB_2).trans RB_2_1, (hy.cell (p := ⟨w.heap.size + 1, 2, none⟩) lRB_2).trans RB_2_2, (hy.cell (p := ⟨w.heap.size + 1, 3, none⟩) lRB_2).trans RB_2_3, (hy.cell (p := ⟨w.heap.size + 1, 4, none⟩) lRB_2).trans RB_2_4, (hy.cell (p := ⟨w.heap.size + 1, 5, none⟩) lRB_2).trans RB_2_5, (hy.cell (p := ⟨w.heap.size + 1, 6, none⟩) lRB_2).trans RB_2_6, (hy.cell (p := ⟨w.heap.size + 1, 7, none⟩) lRB_2).trans RB_2_7, (hy.cell (p := ⟨w.heap.size + 1, 8, none⟩) lRB_2).trans RB_2_8⟩
    refine wp_region_held_drew (S := (fun w' => w'.cell? ⟨w.heap.size, 0, none⟩ = some (.int .i64 o) ∧ w'.cell? ⟨w.heap.size, 1, none⟩ = some (.int .i64 h) ∧ w'.cell? ⟨w.heap.size + 1, 0, none⟩ = some (.slice AT tn tc) ∧ w'.cell? ⟨w.heap.size + 1, 1, none⟩ = some (.int .i64 r.a) ∧ w'.cell? ⟨w.heap.size + 1, 2, none⟩ = some (.int .i64 r.b) ∧ w'.cell? ⟨w.heap.size + 1, 3, none⟩ = some (.int .i64 r.nc) ∧ w'.cell? ⟨w.heap.size + 1, 4, none⟩ = some (.int .i64 r.dn) ∧ w'.cell? ⟨w.heap.size + 1, 5, none⟩ = some (.int .i64 r.br) ∧ w'.cell? ⟨w.heap.size + 1, 6, none⟩ = some (.int .i64 r.em) ∧ w'.cell? ⟨w.heap.size + 1, 7, none⟩ = some (.int .i64 r.pa) ∧ w'.cell? ⟨w.heap.size + 1, 8, none⟩ = some (.int .i64 r.sc))) (by kernel_rfl) (HS.out _ (Below.refl _ _).drew) (fun hHeld => ?_)
    have hT0 : Below x2.heap.size x2 x2.drew := (Below.refl _ _).drew
    generalize hdr : x2.drew = y0 at *
    clear hdr
    refine tkH 0 ⟨some 18, _, _, _, _, _⟩ ?_ rfl ?_ (by assumption) ?_
    rotate_left
    · (intro w hSw; (try dsimp only at hSw); go_simp; all_goals with_reducible rfl)
    try simp only [Act.put, sA, sB, sC]
    refine tkH 1 ⟨some 19, _, _, _, _, _⟩ ?_ rfl ?_ (by assumption) ?_
    rotate_left
    · (intro w hSw; (try dsimp only at hSw); go_simp; all_goals with_reducible rfl)
    try simp only [Act.put, sA, sB, sC]
    refine tkH 2 ⟨some 20, _, _, _, _, _⟩ ?_ rfl ?_ (by assumption) ?_
    rotate_left
    · (intro w hSw; (try dsimp only at hSw); go_simp; all_goals with_reducible rfl)
    try simp only [Act.put, sA, sB, sC]
    refine wpAnyH_ready (rs := [3, 8]) (by kernel_rfl) (by simp) ?_
    refine AllReadyH.cons rfl (fun K hK => ?_) (AllReadyH.cons rfl (fun K hK => ?_) (AllReadyH.nil))
    · skip
      go_simp
      refine (copyR_is T r AT tn tc _ htn ht6 (Lib.hid (hT.out.below (hB2.trans (hT0.mono hB2.size)))) CT).mono ?_
      rintro e y1 ⟨AT1, ct1, rfl, hst, hby0⟩
      have hT1 : Below x2.heap.size x2 y1 := hT0.trans (hby0.mono hT0.size)
      have HT1 := Lib.hid hst
      clear hst
      clear hby0
      go_wp2_with fail
      refine hK.out _ _ (HS.out _ hT1) (fun hHeld => ?_)
      clear hK K
      try simp only [Act.put, sA, sB, sC]
      refine wpAnyH_ready (rs := [4, 8]) (by kernel_rfl) (by simp) ?_
      refine AllReadyH.cons rfl (fun K hK => ?_) (AllReadyH.cons rfl (fun K hK => ?_) (AllReadyH.nil))
      · skip
        go_simp
        refine (HRD.out AT1 ct1 _ HT1).mono ?_
        rintro e y2 ⟨rfl, hby1⟩
        have hT2 : Below x2.heap.size x2 y2 := hT1.trans (hby1.mono hT1.size)
        replace HT1 := Lib.hid (HT1.out.below hby1)
        clear hby1
        go_wp2_with fail
        refine hK.out _ _ (HS.out _ hT2) (fun hHeld => ?_)
        clear hK K
        try simp only [Act.put, sA, sB, sC]
        refine tkH 5 ⟨some 17, _, _, _, _, _⟩ ?_ rfl ?_ (by assumption) ?_
        rotate_left
        · (intro w hSw; (try dsimp only at hSw); go_simp; all_goals with_reducible rfl)
        try simp only [Act.put, sA, sB, sC]
        refine tkH 6 ⟨some 23, _, _, _, _, _⟩ ?_ rfl ?_ (by assumption) ?_
        rotate_left
        · (intro w hSw; (try dsimp only at hSw); go_simp; all_goals with_reducible rfl)
        try simp only [Act.put, sA, sB, sC]
        refine tkH 7 ⟨some 24, _, _, _, _, _⟩ ?_ rfl ?_ (by assumption) ?_
        rotate_left
        · (intro w hSw; (try dsimp only at hSw); go_simp; all_goals with_reducible rfl)
        try simp only [Act.put, sA, sB, sC]
        refine wpAnyH_ready (rs := [8]) (by kernel_rfl) (by simp) ?_
        refine AllReadyH.cons rfl (fun K hK => ?_) (AllReadyH.nil)
        go_simp
        go_wp2_with fail
        refine hK.out _ _ (HS.out _ (hT2.alloc hT2.size _)) (fun hHeld => ?_)
        clear hK K
        try simp only [Act.put, sA, sB, sC]
        have HNb7 := Lib.hid (BlkF.made (B := x2.heap.size) y2 [.int .i64 0, .int .i64 0] 47 hT2.size)
        have hby2 : Below y2.heap.size y2 (y2.alloc (.cells #[.int .i64 0, .int .i64 0] 47)) := (Below.refl _ _).alloc (Nat.le_refl _) _
        replace HT1 := Lib.hid (HT1.out.below hby2)
        have hnb7 : x2.heap.size ≤ y2.heap.size := hT2.size
        have exb7 : ∃ x, y2.heap.size = x := ⟨_, rfl⟩
        generalize hq2 : y2.alloc (.cells #[.int .i64 0, .int .i64 0] 47) = y3 at *
        have hT3 : Below x2.heap.size x2 y3 := hT2.trans (hby2.mono hT2.size)
        obtain ⟨b7, eb7⟩ := exb7
        rw [eb7] at HNb7 hnb7 ⊢
        clear hby2 hq2
        refine wpAnyH_ready (rs := [9]) (by kernel_rfl) (by simp) ?_
        refine AllReadyH.cons rfl (fun K hK => ?_) (AllReadyH.nil)
        have HBs : Hid (BlkF ((y3.setCell ⟨b7, 0, none⟩ (.int .i64 0)).setCell ⟨b7, 1, none⟩ (.int .i64 0)) x2.heap.size b7 [.int .i64 0, .int .i64 0]) := Lib.hid (BlkF.st (vs' := [.int .i64 0, .int .i64 0]) HNb7.out rfl)
        have hTs : Below x2.heap.size x2 ((y3.setCell ⟨b7, 0, none⟩ (.int .i64 0)).setCell ⟨b7, 1, none⟩ (.int .i64 0)) := stW_below HNb7.out.ge [.int .i64 0, .int .i64 0] y3 0 hT3
        obtain ⟨u_0, u_1⟩ := b2 HNb7.out
        have u_f := HNb7.out.fz
        go_simp
        go_wp2_with fail
        refine hK.out _ _ (HS.out _ hTs) (fun hHeld => ?_)
        clear hK K
        try simp only [Act.put, sA, sB, sC]
        clear u_f u_0 u_1
        clear HNb7
        generalize hs3 : ((y3.setCell ⟨b7, 0, none⟩ (.int .i64 0)).setCell ⟨b7, 1, none⟩ (.int .i64 0)) = y4 at *
        clear hs3
        have hT4 := hTs
        clear hTs
        have HNb7 := HBs
        clear HBs
        refine tkH 10 ⟨some 8, _, _, _, _, _⟩ ?_ rfl ?_ (by assumption) ?_
        rotate_left
        · (intro w hSw; (try dsimp only at hSw); go_simp; all_goals with_reducible rfl)
        try simp only [Act.put, sA, sB, sC]
        refine wpAnyH_done (by kernel_rfl) ?_ _
        go_wp2_with fail
        go_meet
        exact ⟨b7, rfl, rfl, Lib.hid (HNb7.out.lower hB2.size), Lib.hid (GB.out.below hT4), Lib.hid (RB.out.below hT4), hB2.trans (hT4.mono hB2.size)⟩
      · skip
        go_simp
        go_wp2_with fail
        refine hK.out _ _ (HS.out _ (hT1.alloc hT1.size _)) (fun hHeld => ?_)
        clear hK K
        try simp only [Act.put, sA, sB, sC]
        have HNb7 := Lib.hid (BlkF.made (B := x2.heap.size) y1 [.int .i64 0, .int .i64 0] 47 hT1.size)
        have hby1 : Below y1.heap.size y1 (y1.alloc (.cells #[.int .i64 0, .int .i64 0] 47)) := (Below.refl _ _).alloc (Nat.le_refl _) _
        replace HT1 := Lib.hid (HT1.out.below hby1)
        have hnb7 : x2.heap.size ≤ y1.heap.size := hT1.size
        have exb7 : ∃ x, y1.heap.size = x := ⟨_, rfl⟩
        generalize hq1 : y1.alloc (.cells #[.int .i64 0, .int .i64 0] 47) = y2 at *
        have hT2 : Below x2.heap.size x2 y2 := hT1.trans (hby1.mono hT1.size)
        obtain ⟨b7, eb7⟩ := exb7
        rw [eb7] at HNb7 hnb7 ⊢
        clear hby1 hq1
        refine wpAnyH_ready (rs := [4]) (by kernel_rfl) (by simp) ?_
        refine AllReadyH.cons rfl (fun K hK => ?_) (AllReadyH.nil)
        go_simp
        refine (HRD.out AT1 ct1 _ HT1).mono ?_
        rintro e y3 ⟨rfl, hby2⟩
        have hT3 : Below x2.heap.size x2 y3 := hT2.trans (hby2.mono hT2.size)
        replace HT1 := Lib.hid (HT1.out.below hby2)
        replace HNb7 := Lib.hid (HNb7.out.below hby2)
        clear hby2
        go_wp2_with fail
        refine hK.out _ _ (HS.out _ hT3) (fun hHeld => ?_)
        clear hK K
        try simp only [Act.put, sA, sB, sC]
        refine tkH 5 ⟨some 17, _, _, _, _, _⟩ ?_ rfl ?_ (by assumption) ?_
        rotate_left
        · (intro w hSw; (try dsimp only at hSw); go_simp; all_goals with_reducible rfl)
        try simp only [Act.put, sA, sB, sC]
        refine tkH 6 ⟨some 23, _, _, _, _, _⟩ ?_ rfl ?_ (by assumption) ?_
        rotate_left
        · (intro w hSw; (try dsimp only at hSw); go_simp; all_goals with_reducible rfl)
        try simp only [Act.put, sA, sB, sC]
        refine tkH 7 ⟨some 24, _, _, _, _, _⟩ ?_ rfl ?_ (by assumption) ?_
        rotate_left
        · (intro w hSw; (try dsimp only at hSw); go_simp; all_goals with_reducible rfl)
        try simp only [Act.put, sA, sB, sC]
        refine wpAnyH_ready (rs := [9]) (by kernel_rfl) (by simp) ?_
        refine AllReadyH.cons rfl (fun K hK => ?_) (AllReadyH.nil)
        have HBs : Hid (BlkF ((y3.setCell ⟨b7, 0, none⟩ (.int .i64 0)).setCell ⟨b7, 1, none⟩ (.int .i64 0)) x2.heap.size b7 [.int .i64 0, .int .i64 0]) := Lib.hid (BlkF.st (vs' := [.int .i64 0, .int .i64 0]) HNb7.out rfl)
        have hTs : Below x2.heap.size x2 ((y3.setCell ⟨b7, 0, none⟩ (.int .i64 0)).setCell ⟨b7, 1, none⟩ (.int .i64 0)) := stW_below HNb7.out.ge [.int .i64 0, .int .i64 0] y3 0 hT3
        obtain ⟨u_0, u_1⟩ := b2 HNb7.out
        have u_f := HNb7.out.fz
        go_simp
        go_wp2_with fail
        refine hK.out _ _ (HS.out _ hTs) (fun hHeld => ?_)
        clear hK K
        try simp only [Act.put, sA, sB, sC]
        clear u_f u_0 u_1
        clear HNb7
        generalize hs3 : ((y3.setCell ⟨b7, 0, none⟩ (.int .i64 0)).setCell ⟨b7, 1, none⟩ (.int .i64 0)) = y4 at *
        clear hs3
        have hT4 := hTs
        clear hTs
        have HNb7 := HBs
        clear HBs
        refine tkH 10 ⟨some 8, _, _, _, _, _⟩ ?_ rfl ?_ (by assumption) ?_
        rotate_left
        · (intro w hSw; (try dsimp only at hSw); go_simp; all_goals with_reducible rfl)
        try simp only [Act.put, sA, sB, sC]
        refine wpAnyH_done (by kernel_rfl) ?_ _
        go_wp2_with fail
        go_meet
        exact ⟨b7, rfl, rfl, Lib.hid (HNb7.out.lower hB2.size), Lib.hid (GB.out.below hT4), Lib.hid (RB.out.below hT4), hB2.trans (hT4.mono hB2.size)⟩
    · skip
      go_simp
      go_wp2_with fail
      refine hK.out _ _ (HS.out _ (hT0.alloc hT0.size _)) (fun hHeld => ?_)
      clear hK K
      try simp only [Act.put, sA, sB, sC]
      have HNb7 := Lib.hid (BlkF.made (B := x2.heap.size) y0 [.int .i64 0, .int .i64 0] 47 hT0.size)
      have hby0 : Below y0.heap.size y0 (y0.alloc (.cells #[.int .i64 0, .int .i64 0] 47)) := (Below.refl _ _).alloc (Nat.le_refl _) _
      have hnb7 : x2.heap.size ≤ y0.heap.size := hT0.size
      have exb7 : ∃ x, y0.heap.size = x := ⟨_, rfl⟩
      generalize hq0 : y0.alloc (.cells #[.int .i64 0, .int .i64 0] 47) = y1 at *
      have hT1 : Below x2.heap.size x2 y1 := hT0.trans (hby0.mono hT0.size)
      obtain ⟨b7, eb7⟩ := exb7
      rw [eb7] at HNb7 hnb7 ⊢
      clear hby0 hq0
      refine wpAnyH_ready (rs := [3]) (by kernel_rfl) (by simp) ?_
      refine AllReadyH.cons rfl (fun K hK => ?_) (AllReadyH.nil)
      go_simp
      refine (copyR_is T r AT tn tc _ htn ht6 (Lib.hid (hT.out.below (hB2.trans (hT1.mono hB2.size)))) CT).mono ?_
      rintro e y2 ⟨AT1, ct1, rfl, hst, hby1⟩
      have hT2 : Below x2.heap.size x2 y2 := hT1.trans (hby1.mono hT1.size)
      replace HNb7 := Lib.hid (HNb7.out.below hby1)
      have HT1 := Lib.hid hst
      clear hst
      clear hby1
      go_wp2_with fail
      refine hK.out _ _ (HS.out _ hT2) (fun hHeld => ?_)
      clear hK K
      try simp only [Act.put, sA, sB, sC]
      refine wpAnyH_ready (rs := [4]) (by kernel_rfl) (by simp) ?_
      refine AllReadyH.cons rfl (fun K hK => ?_) (AllReadyH.nil)
      go_simp
      refine (HRD.out AT1 ct1 _ HT1).mono ?_
      rintro e y3 ⟨rfl, hby2⟩
      have hT3 : Below x2.heap.size x2 y3 := hT2.trans (hby2.mono hT2.size)
      replace HNb7 := Lib.hid (HNb7.out.below hby2)
      replace HT1 := Lib.hid (HT1.out.below hby2)
      clear hby2
      go_wp2_with fail
      refine hK.out _ _ (HS.out _ hT3) (fun hHeld => ?_)
      clear hK K
      try simp only [Act.put, sA, sB, sC]
      refine tkH 5 ⟨some 17, _, _, _, _, _⟩ ?_ rfl ?_ (by assumption) ?_
      rotate_left
      · (intro w hSw; (try dsimp only at hSw); go_simp; all_goals with_reducible rfl)
      try simp only [Act.put, sA, sB, sC]
      refine tkH 6 ⟨some 23, _, _, _, _, _⟩ ?_ rfl ?_ (by assumption) ?_
      rotate_left
      · (intro w hSw; (try dsimp only at hSw); go_simp; all_goals with_reducible rfl)
      try simp only [Act.put, sA, sB, sC]
      refine tkH 7 ⟨some 24, _, _, _, _, _⟩ ?_ rfl ?_ (by assumption) ?_
      rotate_left
      · (intro w hSw; (try dsimp only at hSw); go_simp; all_goals with_reducible rfl)
      try simp only [Act.put, sA, sB, sC]
      refine wpAnyH_ready (rs := [9]) (by kernel_rfl) (by simp) ?_
      refine AllReadyH.cons rfl (fun K hK => ?_) (AllReadyH.nil)
      have HBs : Hid (BlkF ((y3.setCell ⟨b7, 0, none⟩ (.int .i64 0)).setCell ⟨b7, 1, none⟩ (.int .i64 0)) x2.heap.size b7 [.int .i64 0, .int .i64 0]) := Lib.hid (BlkF.st (vs' := [.int .i64 0, .int .i64 0]) HNb7.out rfl)
      have hTs : Below x2.heap.size x2 ((y3.setCell ⟨b7, 0, none⟩ (.int .i64 0)).setCell ⟨b7, 1, none⟩ (.int .i64 0)) := stW_below HNb7.out.ge [.int .i64 0, .int .i64 0] y3 0 hT3
      obtain ⟨u_0, u_1⟩ := b2 HNb7.out
      have u_f := HNb7.out.fz
      go_simp
      go_wp2_with fail
      refine hK.out _ _ (HS.out _ hTs) (fun hHeld => ?_)
      clear hK K
      try simp only [Act.put, sA, sB, sC]
      clear u_f u_0 u_1
      clear HNb7
      generalize hs3 : ((y3.setCell ⟨b7, 0, none⟩ (.int .i64 0)).setCell ⟨b7, 1, none⟩ (.int .i64 0)) = y4 at *
      clear hs3
      have hT4 := hTs
      clear hTs
      have HNb7 := HBs
      clear HBs
      refine tkH 10 ⟨some 8, _, _, _, _, _⟩ ?_ rfl ?_ (by assumption) ?_
      rotate_left
      · (intro w hSw; (try dsimp only at hSw); go_simp; all_goals with_reducible rfl)
      try simp only [Act.put, sA, sB, sC]
      refine wpAnyH_done (by kernel_rfl) ?_ _
      go_wp2_with fail
      go_meet
      exact ⟨b7, rfl, rfl, Lib.hid (HNb7.out.lower hB2.size), Lib.hid (GB.out.below hT4), Lib.hid (RB.out.below hT4), hB2.trans (hT4.mono hB2.size)⟩
  case rest =>
    obtain ⟨b7, rfl, rfl, XB, GB9, RB9, hBc⟩ := hcut
    clear GB RB GB_2_0 GB_2_1 lGB_2 nGB_2 mGB_2 RB_2_0 RB_2_1 RB_2_2 RB_2_3 RB_2_4 RB_2_5 RB_2_6 RB_2_7 RB_2_8 lRB_2 nRB_2 mRB_2
    have hB1 := hBc
    have zu1 := hB1.size
    have hc1 := hB1
    clear hBc
    obtain ⟨XB_1_0, XB_1_1⟩ := b2 XB.out
    have lXB_1 := XB.out.lt
    have nXB_1 : wc.heap.size ≠ b7 := by omega
    have mXB_1 : b7 ≠ wc.heap.size := by omega
    obtain ⟨GB9_1_0, GB9_1_1⟩ := b2 GB9.out
    have lGB9_1 := GB9.out.lt
    have nGB9_1 : wc.heap.size ≠ w.heap.size := by omega
    have mGB9_1 : w.heap.size ≠ wc.heap.size := by omega
    obtain ⟨RB9_1_0, RB9_1_1, RB9_1_2, RB9_1_3, RB9_1_4, RB9_1_5, RB9_1_6, RB9_1_7, RB9_1_8⟩ := b9 RB9.out
    have lRB9_1 := RB9.out.lt
    have nRB9_1 : wc.heap.size ≠ w.heap.size + 1 := by omega
    have mRB9_1 : w.heap.size + 1 ≠ wc.heap.size := by omega
    go_wp2_with fail
    refine (gasErr_is o h s T r AT tn tc E1 E2 E3 E _ htn htl (Lib.hid (hT.out.below hB1)) hE1 hE2 hE3 hE).mono ?_
    rintro e x2 ⟨rfl, hb2⟩
    have hc2 : Below wc.heap.size wc x2 := hb2
    have hB2 : Below w.heap.size w x2 := hB1.trans (hc2.mono hB1.size)
    have zu2 := hB2.size
    replace XB := Lib.hid (XB.out.below hc2)
    replace GB9 := Lib.hid (GB9.out.below hc2)
    replace RB9 := Lib.hid (RB9.out.below hc2)
    clear XB_1_0 XB_1_1 lXB_1 nXB_1 mXB_1 GB9_1_0 GB9_1_1 lGB9_1 nGB9_1 mGB9_1 RB9_1_0 RB9_1_1 RB9_1_2 RB9_1_3 RB9_1_4 RB9_1_5 RB9_1_6 RB9_1_7 RB9_1_8 lRB9_1 nRB9_1 mRB9_1
    clear hb2 hB1 zu1 hc1
    obtain ⟨XB_2_0, XB_2_1⟩ := b2 XB.out
    have lXB_2 := XB.out.lt
    have nXB_2 : x2.heap.size ≠ b7 := by omega
    have mXB_2 : b7 ≠ x2.heap.size := by omega
    obtain ⟨GB9_2_0, GB9_2_1⟩ := b2 GB9.out
    have lGB9_2 := GB9.out.lt
    have nGB9_2 : x2.heap.size ≠ w.heap.size := by omega
    have mGB9_2 : w.heap.size ≠ x2.heap.size := by omega
    obtain ⟨RB9_2_0, RB9_2_1, RB9_2_2, RB9_2_3, RB9_2_4, RB9_2_5, RB9_2_6, RB9_2_7, RB9_2_8⟩ := b9 RB9.out
    have lRB9_2 := RB9.out.lt
    have nRB9_2 : x2.heap.size ≠ w.heap.size + 1 := by omega
    have mRB9_2 : w.heap.size + 1 ≠ x2.heap.size := by omega
    go_wp2
    go_ret
    exact ⟨rfl, hB2⟩
set_option maxRecDepth 100000 in
set_option maxHeartbeats 4000000 in
theorem dep_none (o h s : Int) (T : List Ox) (r : Ru) (AT : Option Addr) (tn tc : Nat) (x y E1 E2 E3 : Int) (w : World) (htn : Hid (tn = T.length)) (htl : tn ≤ 9223372036854775807) (hT : Hid (SlRows oxV 2 w AT T)) (CT : Hid (AT = none → tn = 0 ∧ tc = 0)) (hF : Hid (fewB tn = true)) (hE1 : Hid (gasE o h = E1)) (hE2 : Hid (rngE s 400 1100 = E2)) (hE3 : Hid (ruE T r = E3)) (hE : Hid (firE [E1, E2, E3] = 0)) (hg : Hid (gasE o h = 0)) (s0 : 400 ≤ s) (s1 : s ≤ 1100) (hru : Hid (RuOk T r)) (hP : Hid ((dptP r o h s).1 = x ∧ (dptP r o h s).2.1 = y ∧ decide ((dptP r o h s).2.2 = 0) = false)) (hx : Hid (x = 0)) (hy : Hid (y = 0)) (HRD : Hid (∀ (G : Option Addr) (c : Nat) (X : World), Hid (SlRows oxV 2 X G T) → Calls Try.prog 37 #[.agg #[.int .i64 o, .int .i64 h], .int .i64 s, .agg #[.slice G tn c, .int .i64 r.a, .int .i64 r.b, .int .i64 r.nc, .int .i64 r.dn, .int .i64 r.br, .int .i64 r.em, .int .i64 r.pa, .int .i64 r.sc]] X fun e w' => e = .returned (.tuple #[.agg #[.int .i64 x, .int .i64 y], .int .i64 12]) ∧ Below X.heap.size X w')) :
    Calls Try.prog 8 #[.agg #[.int .i64 o, .int .i64 h], .int .i64 s, .agg #[.slice AT tn tc, .int .i64 r.a, .int .i64 r.b, .int .i64 r.nc, .int .i64 r.dn, .int .i64 r.br, .int .i64 r.em, .int .i64 r.pa, .int .i64 r.sc]] w fun e w' => e = .returned (.bool true) ∧ Below w.heap.size w w' := by
  obtain rfl := hx.out
  obtain rfl := hy.out
  have ht22 : tn ≤ 22 := fewB_le hF.out
  have ht6 : tn ≤ 1000000 := by omega
  go_enter Try.func8, Try.ntmps8
  go_wp2_with fail
  refine (awake_any _).mono ?_
  rintro e x1 ⟨rfl, hb1⟩
  have hc1 : Below w.heap.size w x1 := (((Below.refl _ _).alloc (by first | exact Nat.le_refl _ | (simp; done) | (simp; omega)) _).alloc (by first | exact Nat.le_refl _ | (simp; done) | (simp; omega)) _).trans (hb1.mono (by first | exact Nat.le_refl _ | (simp; done) | (simp; omega)))
  have hB1 : Below w.heap.size w x1 := hc1
  have zu1 := hB1.size
  have GB : Hid (BlkF x1 w.heap.size (w.heap.size) [.int .i64 o, .int .i64 h]) := Lib.hid (((BlkF.made (B := w.heap.size) w [.int .i64 o, .int .i64 h] 72 (by first | exact Nat.le_refl _ | (simp; done) | (simp; omega))).below ((Below.refl _ _).alloc (Nat.le_refl _) _)).below hb1)
  have zGB1 := GB.out.lt
  have RB : Hid (BlkF x1 w.heap.size (w.heap.size + 1) [.slice AT tn tc, .int .i64 r.a, .int .i64 r.b, .int .i64 r.nc, .int .i64 r.dn, .int .i64 r.br, .int .i64 r.em, .int .i64 r.pa, .int .i64 r.sc]) := Lib.hid (by have := (BlkF.made (B := w.heap.size) (w.alloc (.cells #[.int .i64 o, .int .i64 h] 72)) [.slice AT tn tc, .int .i64 r.a, .int .i64 r.b, .int .i64 r.nc, .int .i64 r.dn, .int .i64 r.br, .int .i64 r.em, .int .i64 r.pa, .int .i64 r.sc] 26 (by first | exact Nat.le_refl _ | (simp; done) | (simp; omega))).below hb1; simpa using this)
  have zRB1 := RB.out.lt
  clear hb1
  obtain ⟨GB_1_0, GB_1_1⟩ := b2 GB.out
  have lGB_1 := GB.out.lt
  have nGB_1 : x1.heap.size ≠ w.heap.size := by omega
  have mGB_1 : w.heap.size ≠ x1.heap.size := by omega
  obtain ⟨RB_1_0, RB_1_1, RB_1_2, RB_1_3, RB_1_4, RB_1_5, RB_1_6, RB_1_7, RB_1_8⟩ := b9 RB.out
  have lRB_1 := RB.out.lt
  have nRB_1 : x1.heap.size ≠ w.heap.size + 1 := by omega
  have mRB_1 : w.heap.size + 1 ≠ x1.heap.size := by omega
  go_wp2_with fail
  refine (few_is r AT tn tc true _ htl hF).mono ?_
  rintro e x2 ⟨rfl, hb2⟩
  have hc2 : Below x1.heap.size x1 x2 := hb2
  have hB2 : Below w.heap.size w x2 := hB1.trans (hc2.mono hB1.size)
  have zu2 := hB2.size
  replace GB := Lib.hid (GB.out.below hc2)
  replace RB := Lib.hid (RB.out.below hc2)
  clear GB_1_0 GB_1_1 lGB_1 nGB_1 mGB_1 RB_1_0 RB_1_1 RB_1_2 RB_1_3 RB_1_4 RB_1_5 RB_1_6 RB_1_7 RB_1_8 lRB_1 nRB_1 mRB_1
  clear hb2 hB1 zu1 hc1
  obtain ⟨GB_2_0, GB_2_1⟩ := b2 GB.out
  have lGB_2 := GB.out.lt
  have nGB_2 : x2.heap.size ≠ w.heap.size := by omega
  have mGB_2 : w.heap.size ≠ x2.heap.size := by omega
  obtain ⟨RB_2_0, RB_2_1, RB_2_2, RB_2_3, RB_2_4, RB_2_5, RB_2_6, RB_2_7, RB_2_8⟩ := b9 RB.out
  have lRB_2 := RB.out.lt
  have nRB_2 : x2.heap.size ≠ w.heap.size + 1 := by omega
  have mRB_2 : w.heap.size + 1 ≠ x2.heap.size := by omega
  go_upto_region 5 with (fail)
  go_cut [7, 8] from 17 (fun s7 s8 wx => ∃ b7 : Nat, s7 = .pointer (some ⟨b7, 0, none⟩) ∧ s8 = .int .i64 12 ∧ Hid (BlkF wx w.heap.size b7 [.int .i64 0, .int .i64 0]) ∧ Hid (BlkF wx w.heap.size w.heap.size [.int .i64 o, .int .i64 h]) ∧ Hid (BlkF wx w.heap.size (w.heap.size + 1) [.slice AT tn tc, .int .i64 r.a, .int .i64 r.b, .int .i64 r.nc, .int .i64 r.dn, .int .i64 r.br, .int .i64 r.em, .int .i64 r.pa, .int .i64 r.sc]) ∧ Below w.heap.size w wx)
  case first =>
    have HS : Hid (∀ y, Below x2.heap.size x2 y → y.cell? ⟨w.heap.size, 0, none⟩ = some (.int .i64 o) ∧ y.cell? ⟨w.heap.size, 1, none⟩ = some (.int .i64 h) ∧ y.cell? ⟨w.heap.size + 1, 0, none⟩ = some (.slice AT tn tc) ∧ y.cell? ⟨w.heap.size + 1, 1, none⟩ = some (.int .i64 r.a) ∧ y.cell? ⟨w.heap.size + 1, 2, none⟩ = some (.int .i64 r.b) ∧ y.cell? ⟨w.heap.size + 1, 3, none⟩ = some (.int .i64 r.nc) ∧ y.cell? ⟨w.heap.size + 1, 4, none⟩ = some (.int .i64 r.dn) ∧ y.cell? ⟨w.heap.size + 1, 5, none⟩ = some (.int .i64 r.br) ∧ y.cell? ⟨w.heap.size + 1, 6, none⟩ = some (.int .i64 r.em) ∧ y.cell? ⟨w.heap.size + 1, 7, none⟩ = some (.int .i64 r.pa) ∧ y.cell? ⟨w.heap.size + 1, 8, none⟩ = some (.int .i64 r.sc)) := Lib.hid fun y hy => ⟨(hy.cell (p := ⟨w.heap.size, 0, none⟩) lGB_2).trans GB_2_0, (hy.cell (p := ⟨w.heap.size, 1, none⟩) lGB_2).trans GB_2_1, (hy.cell (p := ⟨w.heap.size + 1, 0, none⟩) lRB_2).trans RB_2_0, (hy.cell (p := ⟨w.heap.size + 1, 1, none⟩) lRB_2).trans RB_2_1, (hy.cell (p := ⟨w.heap.size + 1, 2, none⟩) lRB_2).trans RB_2_2, (hy.cell (p := ⟨w.heap.size + 1, 3, none⟩) lRB_2).trans RB_2_3, (hy.cell (p := ⟨w.heap.size + 1, 4, none⟩) lRB_2).trans RB_2_4, (hy.cell (p := ⟨w.heap.size + 1, 5, none⟩) lRB_2).trans RB_2_5, (hy.cell (p := ⟨w.heap.size + 1, 6, none⟩) lRB_2).trans RB_2_6, (hy.cell (p := ⟨w.heap.size + 1, 7, none⟩) lRB_2).trans RB_2_7, (hy.cell (p := ⟨w.heap.size + 1, 8, none⟩) lRB_2).trans RB_2_8⟩
    refine wp_region_held_drew (S := (fun w' => w'.cell? ⟨w.heap.size, 0, none⟩ = some (.int .i64 o) ∧ w'.cell? ⟨w.heap.size, 1, none⟩ = some (.int .i64 h) ∧ w'.cell? ⟨w.heap.size + 1, 0, none⟩ = some (.slice AT tn tc) ∧ w'.cell? ⟨w.heap.size + 1, 1, none⟩ = some (.int .i64 r.a) ∧ w'.cell? ⟨w.heap.size + 1, 2, none⟩ = some (.int .i64 r.b) ∧ w'.cell? ⟨w.heap.size + 1, 3, none⟩ = some (.int .i64 r.nc) ∧ w'.cell? ⟨w.heap.size + 1, 4, none⟩ = some (.int .i64 r.dn) ∧ w'.cell? ⟨w.heap.size + 1, 5, none⟩ = some (.int .i64 r.br) ∧ w'.cell? ⟨w.heap.size + 1, 6, none⟩ = some (.int .i64 r.em) ∧ w'.cell? ⟨w.heap.size + 1, 7, none⟩ = some (.int .i64 r.pa) ∧ w'.cell? ⟨w.heap.size + 1, 8, none⟩ = some (.int .i64 r.sc))) (by kernel_rfl) (HS.out _ (Below.refl _ _).drew) (fun hHeld => ?_)
    have hT0 : Below x2.heap.size x2 x2.drew := (Below.refl _ _).drew
    generalize hdr : x2.drew = y0 at *
    clear hdr
    refine tkH 0 ⟨some 18, _, _, _, _, _⟩ ?_ rfl ?_ (by assumption) ?_
    rotate_left
    · (intro w hSw; (try dsimp only at hSw); go_simp; all_goals with_reducible rfl)
    try simp only [Act.put, sA, sB, sC]
    refine tkH 1 ⟨some 19, _, _, _, _, _⟩ ?_ rfl ?_ (by assumption) ?_
    rotate_left
    · (intro w hSw; (try dsimp only at hSw); go_simp; all_goals with_reducible rfl)
    try simp only [Act.put, sA, sB, sC]
    refine tkH 2 ⟨some 20, _, _, _, _, _⟩ ?_ rfl ?_ (by assumption) ?_
    rotate_left
    · (intro w hSw; (try dsimp only at hSw); go_simp; all_goals with_reducible rfl)
    try simp only [Act.put, sA, sB, sC]
    refine wpAnyH_ready (rs := [3, 8]) (by kernel_rfl) (by simp) ?_
    refine AllReadyH.cons rfl (fun K hK => ?_) (AllReadyH.cons rfl (fun K hK => ?_) (AllReadyH.nil))
    · skip
      go_simp
      refine (copyR_is T r AT tn tc _ htn ht6 (Lib.hid (hT.out.below (hB2.trans (hT0.mono hB2.size)))) CT).mono ?_
      rintro e y1 ⟨AT1, ct1, rfl, hst, hby0⟩
      have hT1 : Below x2.heap.size x2 y1 := hT0.trans (hby0.mono hT0.size)
      have HT1 := Lib.hid hst
      clear hst
      clear hby0
      go_wp2_with fail
      refine hK.out _ _ (HS.out _ hT1) (fun hHeld => ?_)
      clear hK K
      try simp only [Act.put, sA, sB, sC]
      refine wpAnyH_ready (rs := [4, 8]) (by kernel_rfl) (by simp) ?_
      refine AllReadyH.cons rfl (fun K hK => ?_) (AllReadyH.cons rfl (fun K hK => ?_) (AllReadyH.nil))
      · skip
        go_simp
        refine (HRD.out AT1 ct1 _ HT1).mono ?_
        rintro e y2 ⟨rfl, hby1⟩
        have hT2 : Below x2.heap.size x2 y2 := hT1.trans (hby1.mono hT1.size)
        replace HT1 := Lib.hid (HT1.out.below hby1)
        clear hby1
        go_wp2_with fail
        refine hK.out _ _ (HS.out _ hT2) (fun hHeld => ?_)
        clear hK K
        try simp only [Act.put, sA, sB, sC]
        refine tkH 5 ⟨some 17, _, _, _, _, _⟩ ?_ rfl ?_ (by assumption) ?_
        rotate_left
        · (intro w hSw; (try dsimp only at hSw); go_simp; all_goals with_reducible rfl)
        try simp only [Act.put, sA, sB, sC]
        refine tkH 6 ⟨some 23, _, _, _, _, _⟩ ?_ rfl ?_ (by assumption) ?_
        rotate_left
        · (intro w hSw; (try dsimp only at hSw); go_simp; all_goals with_reducible rfl)
        try simp only [Act.put, sA, sB, sC]
        refine tkH 7 ⟨some 24, _, _, _, _, _⟩ ?_ rfl ?_ (by assumption) ?_
        rotate_left
        · (intro w hSw; (try dsimp only at hSw); go_simp; all_goals with_reducible rfl)
        try simp only [Act.put, sA, sB, sC]
        refine wpAnyH_ready (rs := [8]) (by kernel_rfl) (by simp) ?_
        refine AllReadyH.cons rfl (fun K hK => ?_) (AllReadyH.nil)
        go_simp
        go_wp2_with fail
        refine hK.out _ _ (HS.out _ (hT2.alloc hT2.size _)) (fun hHeld => ?_)
        clear hK K
        try simp only [Act.put, sA, sB, sC]
        have HNb7 := Lib.hid (BlkF.made (B := x2.heap.size) y2 [.int .i64 0, .int .i64 0] 47 hT2.size)
        have hby2 : Below y2.heap.size y2 (y2.alloc (.cells #[.int .i64 0, .int .i64 0] 47)) := (Below.refl _ _).alloc (Nat.le_refl _) _
        replace HT1 := Lib.hid (HT1.out.below hby2)
        have hnb7 : x2.heap.size ≤ y2.heap.size := hT2.size
        have exb7 : ∃ x, y2.heap.size = x := ⟨_, rfl⟩
        generalize hq2 : y2.alloc (.cells #[.int .i64 0, .int .i64 0] 47) = y3 at *
        have hT3 : Below x2.heap.size x2 y3 := hT2.trans (hby2.mono hT2.size)
        obtain ⟨b7, eb7⟩ := exb7
        rw [eb7] at HNb7 hnb7 ⊢
        clear hby2 hq2
        refine wpAnyH_ready (rs := [9]) (by kernel_rfl) (by simp) ?_
        refine AllReadyH.cons rfl (fun K hK => ?_) (AllReadyH.nil)
        have HBs : Hid (BlkF ((y3.setCell ⟨b7, 0, none⟩ (.int .i64 0)).setCell ⟨b7, 1, none⟩ (.int .i64 0)) x2.heap.size b7 [.int .i64 0, .int .i64 0]) := Lib.hid (BlkF.st (vs' := [.int .i64 0, .int .i64 0]) HNb7.out rfl)
        have hTs : Below x2.heap.size x2 ((y3.setCell ⟨b7, 0, none⟩ (.int .i64 0)).setCell ⟨b7, 1, none⟩ (.int .i64 0)) := stW_below HNb7.out.ge [.int .i64 0, .int .i64 0] y3 0 hT3
        obtain ⟨u_0, u_1⟩ := b2 HNb7.out
        have u_f := HNb7.out.fz
        go_simp
        go_wp2_with fail
        refine hK.out _ _ (HS.out _ hTs) (fun hHeld => ?_)
        clear hK K
        try simp only [Act.put, sA, sB, sC]
        clear u_f u_0 u_1
        clear HNb7
        generalize hs3 : ((y3.setCell ⟨b7, 0, none⟩ (.int .i64 0)).setCell ⟨b7, 1, none⟩ (.int .i64 0)) = y4 at *
        clear hs3
        have hT4 := hTs
        clear hTs
        have HNb7 := HBs
        clear HBs
        refine tkH 10 ⟨some 8, _, _, _, _, _⟩ ?_ rfl ?_ (by assumption) ?_
        rotate_left
        · (intro w hSw; (try dsimp only at hSw); go_simp; all_goals with_reducible rfl)
        try simp only [Act.put, sA, sB, sC]
        refine wpAnyH_done (by kernel_rfl) ?_ _
        go_wp2_with fail
        go_meet
        exact ⟨b7, rfl, rfl, Lib.hid (HNb7.out.lower hB2.size), Lib.hid (GB.out.below hT4), Lib.hid (RB.out.below hT4), hB2.trans (hT4.mono hB2.size)⟩
      · skip
        go_simp
        go_wp2_with fail
        refine hK.out _ _ (HS.out _ (hT1.alloc hT1.size _)) (fun hHeld => ?_)
        clear hK K
        try simp only [Act.put, sA, sB, sC]
        have HNb7 := Lib.hid (BlkF.made (B := x2.heap.size) y1 [.int .i64 0, .int .i64 0] 47 hT1.size)
        have hby1 : Below y1.heap.size y1 (y1.alloc (.cells #[.int .i64 0, .int .i64 0] 47)) := (Below.refl _ _).alloc (Nat.le_refl _) _
        replace HT1 := Lib.hid (HT1.out.below hby1)
        have hnb7 : x2.heap.size ≤ y1.heap.size := hT1.size
        have exb7 : ∃ x, y1.heap.size = x := ⟨_, rfl⟩
        generalize hq1 : y1.alloc (.cells #[.int .i64 0, .int .i64 0] 47) = y2 at *
        have hT2 : Below x2.heap.size x2 y2 := hT1.trans (hby1.mono hT1.size)
        obtain ⟨b7, eb7⟩ := exb7
        rw [eb7] at HNb7 hnb7 ⊢
        clear hby1 hq1
        refine wpAnyH_ready (rs := [4]) (by kernel_rfl) (by simp) ?_
        refine AllReadyH.cons rfl (fun K hK => ?_) (AllReadyH.nil)
        go_simp
        refine (HRD.out AT1 ct1 _ HT1).mono ?_
        rintro e y3 ⟨rfl, hby2⟩
        have hT3 : Below x2.heap.size x2 y3 := hT2.trans (hby2.mono hT2.size)
        replace HT1 := Lib.hid (HT1.out.below hby2)
        replace HNb7 := Lib.hid (HNb7.out.below hby2)
        clear hby2
        go_wp2_with fail
        refine hK.out _ _ (HS.out _ hT3) (fun hHeld => ?_)
        clear hK K
        try simp only [Act.put, sA, sB, sC]
        refine tkH 5 ⟨some 17, _, _, _, _, _⟩ ?_ rfl ?_ (by assumption) ?_
        rotate_left
        · (intro w hSw; (try dsimp only at hSw); go_simp; all_goals with_reducible rfl)
        try simp only [Act.put, sA, sB, sC]
        refine tkH 6 ⟨some 23, _, _, _, _, _⟩ ?_ rfl ?_ (by assumption) ?_
        rotate_left
        · (intro w hSw; (try dsimp only at hSw); go_simp; all_goals with_reducible rfl)
        try simp only [Act.put, sA, sB, sC]
        refine tkH 7 ⟨some 24, _, _, _, _, _⟩ ?_ rfl ?_ (by assumption) ?_
        rotate_left
        · (intro w hSw; (try dsimp only at hSw); go_simp; all_goals with_reducible rfl)
        try simp only [Act.put, sA, sB, sC]
        refine wpAnyH_ready (rs := [9]) (by kernel_rfl) (by simp) ?_
        refine AllReadyH.cons rfl (fun K hK => ?_) (AllReadyH.nil)
        have HBs : Hid (BlkF ((y3.setCell ⟨b7, 0, none⟩ (.int .i64 0)).setCell ⟨b7, 1, none⟩ (.int .i64 0)) x2.heap.size b7 [.int .i64 0, .int .i64 0]) := Lib.hid (BlkF.st (vs' := [.int .i64 0, .int .i64 0]) HNb7.out rfl)
        have hTs : Below x2.heap.size x2 ((y3.setCell ⟨b7, 0, none⟩ (.int .i64 0)).setCell ⟨b7, 1, none⟩ (.int .i64 0)) := stW_below HNb7.out.ge [.int .i64 0, .int .i64 0] y3 0 hT3
        obtain ⟨u_0, u_1⟩ := b2 HNb7.out
        have u_f := HNb7.out.fz
        go_simp
        go_wp2_with fail
        refine hK.out _ _ (HS.out _ hTs) (fun hHeld => ?_)
        clear hK K
        try simp only [Act.put, sA, sB, sC]
        clear u_f u_0 u_1
        clear HNb7
        generalize hs3 : ((y3.setCell ⟨b7, 0, none⟩ (.int .i64 0)).setCell ⟨b7, 1, none⟩ (.int .i64 0)) = y4 at *
        clear hs3
        have hT4 := hTs
        clear hTs
        have HNb7 := HBs
        clear HBs
        refine tkH 10 ⟨some 8, _, _, _, _, _⟩ ?_ rfl ?_ (by assumption) ?_
        rotate_left
        · (intro w hSw; (try dsimp only at hSw); go_simp; all_goals with_reducible rfl)
        try simp only [Act.put, sA, sB, sC]
        refine wpAnyH_done (by kernel_rfl) ?_ _
        go_wp2_with fail
        go_meet
        exact ⟨b7, rfl, rfl, Lib.hid (HNb7.out.lower hB2.size), Lib.hid (GB.out.below hT4), Lib.hid (RB.out.below hT4), hB2.trans (hT4.mono hB2.size)⟩
    · skip
      go_simp
      go_wp2_with fail
      refine hK.out _ _ (HS.out _ (hT0.alloc hT0.size _)) (fun hHeld => ?_)
      clear hK K
      try simp only [Act.put, sA, sB, sC]
      have HNb7 := Lib.hid (BlkF.made (B := x2.heap.size) y0 [.int .i64 0, .int .i64 0] 47 hT0.size)
      have hby0 : Below y0.heap.size y0 (y0.alloc (.cells #[.int .i64 0, .int .i64 0] 47)) := (Below.refl _ _).alloc (Nat.le_refl _) _
      have hnb7 : x2.heap.size ≤ y0.heap.size := hT0.size
      have exb7 : ∃ x, y0.heap.size = x := ⟨_, rfl⟩
      generalize hq0 : y0.alloc (.cells #[.int .i64 0, .int .i64 0] 47) = y1 at *
      have hT1 : Below x2.heap.size x2 y1 := hT0.trans (hby0.mono hT0.size)
      obtain ⟨b7, eb7⟩ := exb7
      rw [eb7] at HNb7 hnb7 ⊢
      clear hby0 hq0
      refine wpAnyH_ready (rs := [3]) (by kernel_rfl) (by simp) ?_
      refine AllReadyH.cons rfl (fun K hK => ?_) (AllReadyH.nil)
      go_simp
      refine (copyR_is T r AT tn tc _ htn ht6 (Lib.hid (hT.out.below (hB2.trans (hT1.mono hB2.size)))) CT).mono ?_
      rintro e y2 ⟨AT1, ct1, rfl, hst, hby1⟩
      have hT2 : Below x2.heap.size x2 y2 := hT1.trans (hby1.mono hT1.size)
      replace HNb7 := Lib.hid (HNb7.out.below hby1)
      have HT1 := Lib.hid hst
      clear hst
      clear hby1
      go_wp2_with fail
      refine hK.out _ _ (HS.out _ hT2) (fun hHeld => ?_)
      clear hK K
      try simp only [Act.put, sA, sB, sC]
      refine wpAnyH_ready (rs := [4]) (by kernel_rfl) (by simp) ?_
      refine AllReadyH.cons rfl (fun K hK => ?_) (AllReadyH.nil)
      go_simp
      refine (HRD.out AT1 ct1 _ HT1).mono ?_
      rintro e y3 ⟨rfl, hby2⟩
      have hT3 : Below x2.heap.size x2 y3 := hT2.trans (hby2.mono hT2.size)
      replace HNb7 := Lib.hid (HNb7.out.below hby2)
      replace HT1 := Lib.hid (HT1.out.below hby2)
      clear hby2
      go_wp2_with fail
      refine hK.out _ _ (HS.out _ hT3) (fun hHeld => ?_)
      clear hK K
      try simp only [Act.put, sA, sB, sC]
      refine tkH 5 ⟨some 17, _, _, _, _, _⟩ ?_ rfl ?_ (by assumption) ?_
      rotate_left
      · (intro w hSw; (try dsimp only at hSw); go_simp; all_goals with_reducible rfl)
      try simp only [Act.put, sA, sB, sC]
      refine tkH 6 ⟨some 23, _, _, _, _, _⟩ ?_ rfl ?_ (by assumption) ?_
      rotate_left
      · (intro w hSw; (try dsimp only at hSw); go_simp; all_goals with_reducible rfl)
      try simp only [Act.put, sA, sB, sC]
      refine tkH 7 ⟨some 24, _, _, _, _, _⟩ ?_ rfl ?_ (by assumption) ?_
      rotate_left
      · (intro w hSw; (try dsimp only at hSw); go_simp; all_goals with_reducible rfl)
      try simp only [Act.put, sA, sB, sC]
      refine wpAnyH_ready (rs := [9]) (by kernel_rfl) (by simp) ?_
      refine AllReadyH.cons rfl (fun K hK => ?_) (AllReadyH.nil)
      have HBs : Hid (BlkF ((y3.setCell ⟨b7, 0, none⟩ (.int .i64 0)).setCell ⟨b7, 1, none⟩ (.int .i64 0)) x2.heap.size b7 [.int .i64 0, .int .i64 0]) := Lib.hid (BlkF.st (vs' := [.int .i64 0, .int .i64 0]) HNb7.out rfl)
      have hTs : Below x2.heap.size x2 ((y3.setCell ⟨b7, 0, none⟩ (.int .i64 0)).setCell ⟨b7, 1, none⟩ (.int .i64 0)) := stW_below HNb7.out.ge [.int .i64 0, .int .i64 0] y3 0 hT3
      obtain ⟨u_0, u_1⟩ := b2 HNb7.out
      have u_f := HNb7.out.fz
      go_simp
      go_wp2_with fail
      refine hK.out _ _ (HS.out _ hTs) (fun hHeld => ?_)
      clear hK K
      try simp only [Act.put, sA, sB, sC]
      clear u_f u_0 u_1
      clear HNb7
      generalize hs3 : ((y3.setCell ⟨b7, 0, none⟩ (.int .i64 0)).setCell ⟨b7, 1, none⟩ (.int .i64 0)) = y4 at *
      clear hs3
      have hT4 := hTs
      clear hTs
      have HNb7 := HBs
      clear HBs
      refine tkH 10 ⟨some 8, _, _, _, _, _⟩ ?_ rfl ?_ (by assumption) ?_
      rotate_left
      · (intro w hSw; (try dsimp only at hSw); go_simp; all_goals with_reducible rfl)
      try simp only [Act.put, sA, sB, sC]
      refine wpAnyH_done (by kernel_rfl) ?_ _
      go_wp2_with fail
      go_meet
      exact ⟨b7, rfl, rfl, Lib.hid (HNb7.out.lower hB2.size), Lib.hid (GB.out.below hT4), Lib.hid (RB.out.below hT4), hB2.trans (hT4.mono hB2.size)⟩
  case rest =>
    obtain ⟨b7, rfl, rfl, XB, GB9, RB9, hBc⟩ := hcut
    clear GB RB GB_2_0 GB_2_1 lGB_2 nGB_2 mGB_2 RB_2_0 RB_2_1 RB_2_2 RB_2_3 RB_2_4 RB_2_5 RB_2_6 RB_2_7 RB_2_8 lRB_2 nRB_2 mRB_2
    have hB1 := hBc
    have zu1 := hB1.size
    have hc1 := hB1
    clear hBc
    obtain ⟨XB_1_0, XB_1_1⟩ := b2 XB.out
    have lXB_1 := XB.out.lt
    have nXB_1 : wc.heap.size ≠ b7 := by omega
    have mXB_1 : b7 ≠ wc.heap.size := by omega
    obtain ⟨GB9_1_0, GB9_1_1⟩ := b2 GB9.out
    have lGB9_1 := GB9.out.lt
    have nGB9_1 : wc.heap.size ≠ w.heap.size := by omega
    have mGB9_1 : w.heap.size ≠ wc.heap.size := by omega
    obtain ⟨RB9_1_0, RB9_1_1, RB9_1_2, RB9_1_3, RB9_1_4, RB9_1_5, RB9_1_6, RB9_1_7, RB9_1_8⟩ := b9 RB9.out
    have lRB9_1 := RB9.out.lt
    have nRB9_1 : wc.heap.size ≠ w.heap.size + 1 := by omega
    have mRB9_1 : w.heap.size + 1 ≠ wc.heap.size := by omega
    go_wp2_with fail
    refine (gasErr_is o h s T r AT tn tc E1 E2 E3 0 _ htn htl (Lib.hid (hT.out.below hB1)) hE1 hE2 hE3 hE).mono ?_
    rintro e x2 ⟨rfl, hb2⟩
    have hc2 : Below wc.heap.size wc x2 := hb2
    have hB2 : Below w.heap.size w x2 := hB1.trans (hc2.mono hB1.size)
    have zu2 := hB2.size
    replace XB := Lib.hid (XB.out.below hc2)
    replace GB9 := Lib.hid (GB9.out.below hc2)
    replace RB9 := Lib.hid (RB9.out.below hc2)
    clear XB_1_0 XB_1_1 lXB_1 nXB_1 mXB_1 GB9_1_0 GB9_1_1 lGB9_1 nGB9_1 mGB9_1 RB9_1_0 RB9_1_1 RB9_1_2 RB9_1_3 RB9_1_4 RB9_1_5 RB9_1_6 RB9_1_7 RB9_1_8 lRB9_1 nRB9_1 mRB9_1
    clear hb2 hB1 zu1 hc1
    obtain ⟨XB_2_0, XB_2_1⟩ := b2 XB.out
    have lXB_2 := XB.out.lt
    have nXB_2 : x2.heap.size ≠ b7 := by omega
    have mXB_2 : b7 ≠ x2.heap.size := by omega
    obtain ⟨GB9_2_0, GB9_2_1⟩ := b2 GB9.out
    have lGB9_2 := GB9.out.lt
    have nGB9_2 : x2.heap.size ≠ w.heap.size := by omega
    have mGB9_2 : w.heap.size ≠ x2.heap.size := by omega
    obtain ⟨RB9_2_0, RB9_2_1, RB9_2_2, RB9_2_3, RB9_2_4, RB9_2_5, RB9_2_6, RB9_2_7, RB9_2_8⟩ := b9 RB9.out
    have lRB9_2 := RB9.out.lt
    have nRB9_2 : x2.heap.size ≠ w.heap.size + 1 := by omega
    have mRB9_2 : w.heap.size + 1 ≠ x2.heap.size := by omega
    go_wp2_with fail
    refine (refDepthsOf_is o h s T r AT tn tc 0 0 false _ hg s0 s1 hru hP).mono ?_
    rintro e x3 ⟨rfl, hb3⟩
    have hc3 : Below x2.heap.size x2 x3 := hb3
    have hB3 : Below w.heap.size w x3 := hB2.trans (hc3.mono hB2.size)
    have zu3 := hB3.size
    replace XB := Lib.hid (XB.out.below hc3)
    replace GB9 := Lib.hid (GB9.out.below hc3)
    replace RB9 := Lib.hid (RB9.out.below hc3)
    clear XB_2_0 XB_2_1 lXB_2 nXB_2 mXB_2 GB9_2_0 GB9_2_1 lGB9_2 nGB9_2 mGB9_2 RB9_2_0 RB9_2_1 RB9_2_2 RB9_2_3 RB9_2_4 RB9_2_5 RB9_2_6 RB9_2_7 RB9_2_8 lRB9_2 nRB9_2 mRB9_2
    clear hb3 hB2 zu2 hc2
    obtain ⟨XB_3_0, XB_3_1⟩ := b2 XB.out
    have lXB_3 := XB.out.lt
    have nXB_3 : x3.heap.size ≠ b7 := by omega
    have mXB_3 : b7 ≠ x3.heap.size := by omega
    obtain ⟨GB9_3_0, GB9_3_1⟩ := b2 GB9.out
    have lGB9_3 := GB9.out.lt
    have nGB9_3 : x3.heap.size ≠ w.heap.size := by omega
    have mGB9_3 : w.heap.size ≠ x3.heap.size := by omega
    obtain ⟨RB9_3_0, RB9_3_1, RB9_3_2, RB9_3_3, RB9_3_4, RB9_3_5, RB9_3_6, RB9_3_7, RB9_3_8⟩ := b9 RB9.out
    have lRB9_3 := RB9.out.lt
    have nRB9_3 : x3.heap.size ≠ w.heap.size + 1 := by omega
    have mRB9_3 : w.heap.size + 1 ≠ x3.heap.size := by omega
    go_wp2
    go_ret
    exact ⟨rfl, hB3.alloc hB3.size _⟩
set_option maxRecDepth 100000 in
set_option maxHeartbeats 4000000 in
theorem dep_good (o h s : Int) (T : List Ox) (r : Ru) (AT : Option Addr) (tn tc : Nat) (x y E1 E2 E3 : Int) (w : World) (htn : Hid (tn = T.length)) (htl : tn ≤ 9223372036854775807) (hT : Hid (SlRows oxV 2 w AT T)) (CT : Hid (AT = none → tn = 0 ∧ tc = 0)) (hF : Hid (fewB tn = true)) (hE1 : Hid (gasE o h = E1)) (hE2 : Hid (rngE s 400 1100 = E2)) (hE3 : Hid (ruE T r = E3)) (hE : Hid (firE [E1, E2, E3] = 0)) (hg : Hid (gasE o h = 0)) (s0 : 400 ≤ s) (s1 : s ≤ 1100) (hru : Hid (RuOk T r)) (hP : Hid ((dptP r o h s).1 = x ∧ (dptP r o h s).2.1 = y ∧ decide ((dptP r o h s).2.2 = 0) = true)) (HRD : Hid (∀ (G : Option Addr) (c : Nat) (X : World), Hid (SlRows oxV 2 X G T) → Calls Try.prog 37 #[.agg #[.int .i64 o, .int .i64 h], .int .i64 s, .agg #[.slice G tn c, .int .i64 r.a, .int .i64 r.b, .int .i64 r.nc, .int .i64 r.dn, .int .i64 r.br, .int .i64 r.em, .int .i64 r.pa, .int .i64 r.sc]] X fun e w' => e = .returned (.tuple #[.agg #[.int .i64 x, .int .i64 y], .int .i64 0]) ∧ Below X.heap.size X w')) :
    Calls Try.prog 8 #[.agg #[.int .i64 o, .int .i64 h], .int .i64 s, .agg #[.slice AT tn tc, .int .i64 r.a, .int .i64 r.b, .int .i64 r.nc, .int .i64 r.dn, .int .i64 r.br, .int .i64 r.em, .int .i64 r.pa, .int .i64 r.sc]] w fun e w' => e = .returned (.bool true) ∧ Below w.heap.size w w' := by
  have ht22 : tn ≤ 22 := fewB_le hF.out
  have ht6 : tn ≤ 1000000 := by omega
  go_enter Try.func8, Try.ntmps8
  go_wp2_with fail
  refine (awake_any _).mono ?_
  rintro e x1 ⟨rfl, hb1⟩
  have hc1 : Below w.heap.size w x1 := (((Below.refl _ _).alloc (by first | exact Nat.le_refl _ | (simp; done) | (simp; omega)) _).alloc (by first | exact Nat.le_refl _ | (simp; done) | (simp; omega)) _).trans (hb1.mono (by first | exact Nat.le_refl _ | (simp; done) | (simp; omega)))
  have hB1 : Below w.heap.size w x1 := hc1
  have zu1 := hB1.size
  have GB : Hid (BlkF x1 w.heap.size (w.heap.size) [.int .i64 o, .int .i64 h]) := Lib.hid (((BlkF.made (B := w.heap.size) w [.int .i64 o, .int .i64 h] 72 (by first | exact Nat.le_refl _ | (simp; done) | (simp; omega))).below ((Below.refl _ _).alloc (Nat.le_refl _) _)).below hb1)
  have zGB1 := GB.out.lt
  have RB : Hid (BlkF x1 w.heap.size (w.heap.size + 1) [.slice AT tn tc, .int .i64 r.a, .int .i64 r.b, .int .i64 r.nc, .int .i64 r.dn, .int .i64 r.br, .int .i64 r.em, .int .i64 r.pa, .int .i64 r.sc]) := Lib.hid (by have := (BlkF.made (B := w.heap.size) (w.alloc (.cells #[.int .i64 o, .int .i64 h] 72)) [.slice AT tn tc, .int .i64 r.a, .int .i64 r.b, .int .i64 r.nc, .int .i64 r.dn, .int .i64 r.br, .int .i64 r.em, .int .i64 r.pa, .int .i64 r.sc] 26 (by first | exact Nat.le_refl _ | (simp; done) | (simp; omega))).below hb1; simpa using this)
  have zRB1 := RB.out.lt
  clear hb1
  obtain ⟨GB_1_0, GB_1_1⟩ := b2 GB.out
  have lGB_1 := GB.out.lt
  have nGB_1 : x1.heap.size ≠ w.heap.size := by omega
  have mGB_1 : w.heap.size ≠ x1.heap.size := by omega
  obtain ⟨RB_1_0, RB_1_1, RB_1_2, RB_1_3, RB_1_4, RB_1_5, RB_1_6, RB_1_7, RB_1_8⟩ := b9 RB.out
  have lRB_1 := RB.out.lt
  have nRB_1 : x1.heap.size ≠ w.heap.size + 1 := by omega
  have mRB_1 : w.heap.size + 1 ≠ x1.heap.size := by omega
  go_wp2_with fail
  refine (few_is r AT tn tc true _ htl hF).mono ?_
  rintro e x2 ⟨rfl, hb2⟩
  have hc2 : Below x1.heap.size x1 x2 := hb2
  have hB2 : Below w.heap.size w x2 := hB1.trans (hc2.mono hB1.size)
  have zu2 := hB2.size
  replace GB := Lib.hid (GB.out.below hc2)
  replace RB := Lib.hid (RB.out.below hc2)
  clear GB_1_0 GB_1_1 lGB_1 nGB_1 mGB_1 RB_1_0 RB_1_1 RB_1_2 RB_1_3 RB_1_4 RB_1_5 RB_1_6 RB_1_7 RB_1_8 lRB_1 nRB_1 mRB_1
  clear hb2 hB1 zu1 hc1
  obtain ⟨GB_2_0, GB_2_1⟩ := b2 GB.out
  have lGB_2 := GB.out.lt
  have nGB_2 : x2.heap.size ≠ w.heap.size := by omega
  have mGB_2 : w.heap.size ≠ x2.heap.size := by omega
  obtain ⟨RB_2_0, RB_2_1, RB_2_2, RB_2_3, RB_2_4, RB_2_5, RB_2_6, RB_2_7, RB_2_8⟩ := b9 RB.out
  have lRB_2 := RB.out.lt
  have nRB_2 : x2.heap.size ≠ w.heap.size + 1 := by omega
  have mRB_2 : w.heap.size + 1 ≠ x2.heap.size := by omega
  go_upto_region 5 with (fail)
  go_cut [7, 8] from 17 (fun s7 s8 wx => ∃ b7 : Nat, s7 = .pointer (some ⟨b7, 0, none⟩) ∧ s8 = .int .i64 0 ∧ Hid (BlkF wx w.heap.size b7 [.int .i64 x, .int .i64 y]) ∧ Hid (BlkF wx w.heap.size w.heap.size [.int .i64 o, .int .i64 h]) ∧ Hid (BlkF wx w.heap.size (w.heap.size + 1) [.slice AT tn tc, .int .i64 r.a, .int .i64 r.b, .int .i64 r.nc, .int .i64 r.dn, .int .i64 r.br, .int .i64 r.em, .int .i64 r.pa, .int .i64 r.sc]) ∧ Below w.heap.size w wx)
  case first =>
    have HS : Hid (∀ y, Below x2.heap.size x2 y → y.cell? ⟨w.heap.size, 0, none⟩ = some (.int .i64 o) ∧ y.cell? ⟨w.heap.size, 1, none⟩ = some (.int .i64 h) ∧ y.cell? ⟨w.heap.size + 1, 0, none⟩ = some (.slice AT tn tc) ∧ y.cell? ⟨w.heap.size + 1, 1, none⟩ = some (.int .i64 r.a) ∧ y.cell? ⟨w.heap.size + 1, 2, none⟩ = some (.int .i64 r.b) ∧ y.cell? ⟨w.heap.size + 1, 3, none⟩ = some (.int .i64 r.nc) ∧ y.cell? ⟨w.heap.size + 1, 4, none⟩ = some (.int .i64 r.dn) ∧ y.cell? ⟨w.heap.size + 1, 5, none⟩ = some (.int .i64 r.br) ∧ y.cell? ⟨w.heap.size + 1, 6, none⟩ = some (.int .i64 r.em) ∧ y.cell? ⟨w.heap.size + 1, 7, none⟩ = some (.int .i64 r.pa) ∧ y.cell? ⟨w.heap.size + 1, 8, none⟩ = some (.int .i64 r.sc)) := Lib.hid fun y hy => ⟨(hy.cell (p := ⟨w.heap.size, 0, none⟩) lGB_2).trans GB_2_0, (hy.cell (p := ⟨w.heap.size, 1, none⟩) lGB_2).trans GB_2_1, (hy.cell (p := ⟨w.heap.size + 1, 0, none⟩) lRB_2).trans RB_2_0, (hy.cell (p := ⟨w.heap.size + 1, 1, none⟩) lRB_2).trans RB_2_1, (hy.cell (p := ⟨w.heap.size + 1, 2, none⟩) lRB_2).trans RB_2_2, (hy.cell (p := ⟨w.heap.size + 1, 3, none⟩) lRB_2).trans RB_2_3, (hy.cell (p := ⟨w.heap.size + 1, 4, none⟩) lRB_2).trans RB_2_4, (hy.cell (p := ⟨w.heap.size + 1, 5, none⟩) lRB_2).trans RB_2_5, (hy.cell (p := ⟨w.heap.size + 1, 6, none⟩) lRB_2).trans RB_2_6, (hy.cell (p := ⟨w.heap.size + 1, 7, none⟩) lRB_2).trans RB_2_7, (hy.cell (p := ⟨w.heap.size + 1, 8, none⟩) lRB_2).trans RB_2_8⟩
    refine wp_region_held_drew (S := (fun w' => w'.cell? ⟨w.heap.size, 0, none⟩ = some (.int .i64 o) ∧ w'.cell? ⟨w.heap.size, 1, none⟩ = some (.int .i64 h) ∧ w'.cell? ⟨w.heap.size + 1, 0, none⟩ = some (.slice AT tn tc) ∧ w'.cell? ⟨w.heap.size + 1, 1, none⟩ = some (.int .i64 r.a) ∧ w'.cell? ⟨w.heap.size + 1, 2, none⟩ = some (.int .i64 r.b) ∧ w'.cell? ⟨w.heap.size + 1, 3, none⟩ = some (.int .i64 r.nc) ∧ w'.cell? ⟨w.heap.size + 1, 4, none⟩ = some (.int .i64 r.dn) ∧ w'.cell? ⟨w.heap.size + 1, 5, none⟩ = some (.int .i64 r.br) ∧ w'.cell? ⟨w.heap.size + 1, 6, none⟩ = some (.int .i64 r.em) ∧ w'.cell? ⟨w.heap.size + 1, 7, none⟩ = some (.int .i64 r.pa) ∧ w'.cell? ⟨w.heap.size + 1, 8, none⟩ = some (.int .i64 r.sc))) (by kernel_rfl) (HS.out _ (Below.refl _ _).drew) (fun hHeld => ?_)
    have hT0 : Below x2.heap.size x2 x2.drew := (Below.refl _ _).drew
    generalize hdr : x2.drew = y0 at *
    clear hdr
    refine tkH 0 ⟨some 18, _, _, _, _, _⟩ ?_ rfl ?_ (by assumption) ?_
    rotate_left
    · (intro w hSw; (try dsimp only at hSw); go_simp; all_goals with_reducible rfl)
    try simp only [Act.put, sA, sB, sC]
    refine tkH 1 ⟨some 19, _, _, _, _, _⟩ ?_ rfl ?_ (by assumption) ?_
    rotate_left
    · (intro w hSw; (try dsimp only at hSw); go_simp; all_goals with_reducible rfl)
    try simp only [Act.put, sA, sB, sC]
    refine tkH 2 ⟨some 20, _, _, _, _, _⟩ ?_ rfl ?_ (by assumption) ?_
    rotate_left
    · (intro w hSw; (try dsimp only at hSw); go_simp; all_goals with_reducible rfl)
    try simp only [Act.put, sA, sB, sC]
    refine wpAnyH_ready (rs := [3, 8]) (by kernel_rfl) (by simp) ?_
    refine AllReadyH.cons rfl (fun K hK => ?_) (AllReadyH.cons rfl (fun K hK => ?_) (AllReadyH.nil))
    · skip
      go_simp
      refine (copyR_is T r AT tn tc _ htn ht6 (Lib.hid (hT.out.below (hB2.trans (hT0.mono hB2.size)))) CT).mono ?_
      rintro e y1 ⟨AT1, ct1, rfl, hst, hby0⟩
      have hT1 : Below x2.heap.size x2 y1 := hT0.trans (hby0.mono hT0.size)
      have HT1 := Lib.hid hst
      clear hst
      clear hby0
      go_wp2_with fail
      refine hK.out _ _ (HS.out _ hT1) (fun hHeld => ?_)
      clear hK K
      try simp only [Act.put, sA, sB, sC]
      refine wpAnyH_ready (rs := [4, 8]) (by kernel_rfl) (by simp) ?_
      refine AllReadyH.cons rfl (fun K hK => ?_) (AllReadyH.cons rfl (fun K hK => ?_) (AllReadyH.nil))
      · skip
        go_simp
        refine (HRD.out AT1 ct1 _ HT1).mono ?_
        rintro e y2 ⟨rfl, hby1⟩
        have hT2 : Below x2.heap.size x2 y2 := hT1.trans (hby1.mono hT1.size)
        replace HT1 := Lib.hid (HT1.out.below hby1)
        clear hby1
        go_wp2_with fail
        refine hK.out _ _ (HS.out _ hT2) (fun hHeld => ?_)
        clear hK K
        try simp only [Act.put, sA, sB, sC]
        refine tkH 5 ⟨some 17, _, _, _, _, _⟩ ?_ rfl ?_ (by assumption) ?_
        rotate_left
        · (intro w hSw; (try dsimp only at hSw); go_simp; all_goals with_reducible rfl)
        try simp only [Act.put, sA, sB, sC]
        refine tkH 6 ⟨some 23, _, _, _, _, _⟩ ?_ rfl ?_ (by assumption) ?_
        rotate_left
        · (intro w hSw; (try dsimp only at hSw); go_simp; all_goals with_reducible rfl)
        try simp only [Act.put, sA, sB, sC]
        refine tkH 7 ⟨some 24, _, _, _, _, _⟩ ?_ rfl ?_ (by assumption) ?_
        rotate_left
        · (intro w hSw; (try dsimp only at hSw); go_simp; all_goals with_reducible rfl)
        try simp only [Act.put, sA, sB, sC]
        refine wpAnyH_ready (rs := [8]) (by kernel_rfl) (by simp) ?_
        refine AllReadyH.cons rfl (fun K hK => ?_) (AllReadyH.nil)
        go_simp
        go_wp2_with fail
        refine hK.out _ _ (HS.out _ (hT2.alloc hT2.size _)) (fun hHeld => ?_)
        clear hK K
        try simp only [Act.put, sA, sB, sC]
        have HNb7 := Lib.hid (BlkF.made (B := x2.heap.size) y2 [.int .i64 0, .int .i64 0] 47 hT2.size)
        have hby2 : Below y2.heap.size y2 (y2.alloc (.cells #[.int .i64 0, .int .i64 0] 47)) := (Below.refl _ _).alloc (Nat.le_refl _) _
        replace HT1 := Lib.hid (HT1.out.below hby2)
        have hnb7 : x2.heap.size ≤ y2.heap.size := hT2.size
        have exb7 : ∃ x, y2.heap.size = x := ⟨_, rfl⟩
        generalize hq2 : y2.alloc (.cells #[.int .i64 0, .int .i64 0] 47) = y3 at *
        have hT3 : Below x2.heap.size x2 y3 := hT2.trans (hby2.mono hT2.size)
        obtain ⟨b7, eb7⟩ := exb7
        rw [eb7] at HNb7 hnb7 ⊢
        clear hby2 hq2
        refine wpAnyH_ready (rs := [9]) (by kernel_rfl) (by simp) ?_
        refine AllReadyH.cons rfl (fun K hK => ?_) (AllReadyH.nil)
        have HBs : Hid (BlkF ((y3.setCell ⟨b7, 0, none⟩ (.int .i64 x)).setCell ⟨b7, 1, none⟩ (.int .i64 y)) x2.heap.size b7 [.int .i64 x, .int .i64 y]) := Lib.hid (BlkF.st (vs' := [.int .i64 x, .int .i64 y]) HNb7.out rfl)
        have hTs : Below x2.heap.size x2 ((y3.setCell ⟨b7, 0, none⟩ (.int .i64 x)).setCell ⟨b7, 1, none⟩ (.int .i64 y)) := stW_below HNb7.out.ge [.int .i64 x, .int .i64 y] y3 0 hT3
        obtain ⟨u_0, u_1⟩ := b2 HNb7.out
        have u_f := HNb7.out.fz
        go_simp
        go_wp2_with fail
        refine hK.out _ _ (HS.out _ hTs) (fun hHeld => ?_)
        clear hK K
        try simp only [Act.put, sA, sB, sC]
        clear u_f u_0 u_1
        clear HNb7
        generalize hs3 : ((y3.setCell ⟨b7, 0, none⟩ (.int .i64 x)).setCell ⟨b7, 1, none⟩ (.int .i64 y)) = y4 at *
        clear hs3
        have hT4 := hTs
        clear hTs
        have HNb7 := HBs
        clear HBs
        refine tkH 10 ⟨some 8, _, _, _, _, _⟩ ?_ rfl ?_ (by assumption) ?_
        rotate_left
        · (intro w hSw; (try dsimp only at hSw); go_simp; all_goals with_reducible rfl)
        try simp only [Act.put, sA, sB, sC]
        refine wpAnyH_done (by kernel_rfl) ?_ _
        go_wp2_with fail
        go_meet
        exact ⟨b7, rfl, rfl, Lib.hid (HNb7.out.lower hB2.size), Lib.hid (GB.out.below hT4), Lib.hid (RB.out.below hT4), hB2.trans (hT4.mono hB2.size)⟩
      · skip
        go_simp
        go_wp2_with fail
        refine hK.out _ _ (HS.out _ (hT1.alloc hT1.size _)) (fun hHeld => ?_)
        clear hK K
        try simp only [Act.put, sA, sB, sC]
        have HNb7 := Lib.hid (BlkF.made (B := x2.heap.size) y1 [.int .i64 0, .int .i64 0] 47 hT1.size)
        have hby1 : Below y1.heap.size y1 (y1.alloc (.cells #[.int .i64 0, .int .i64 0] 47)) := (Below.refl _ _).alloc (Nat.le_refl _) _
        replace HT1 := Lib.hid (HT1.out.below hby1)
        have hnb7 : x2.heap.size ≤ y1.heap.size := hT1.size
        have exb7 : ∃ x, y1.heap.size = x := ⟨_, rfl⟩
        generalize hq1 : y1.alloc (.cells #[.int .i64 0, .int .i64 0] 47) = y2 at *
        have hT2 : Below x2.heap.size x2 y2 := hT1.trans (hby1.mono hT1.size)
        obtain ⟨b7, eb7⟩ := exb7
        rw [eb7] at HNb7 hnb7 ⊢
        clear hby1 hq1
        refine wpAnyH_ready (rs := [4]) (by kernel_rfl) (by simp) ?_
        refine AllReadyH.cons rfl (fun K hK => ?_) (AllReadyH.nil)
        go_simp
        refine (HRD.out AT1 ct1 _ HT1).mono ?_
        rintro e y3 ⟨rfl, hby2⟩
        have hT3 : Below x2.heap.size x2 y3 := hT2.trans (hby2.mono hT2.size)
        replace HT1 := Lib.hid (HT1.out.below hby2)
        replace HNb7 := Lib.hid (HNb7.out.below hby2)
        clear hby2
        go_wp2_with fail
        refine hK.out _ _ (HS.out _ hT3) (fun hHeld => ?_)
        clear hK K
        try simp only [Act.put, sA, sB, sC]
        refine tkH 5 ⟨some 17, _, _, _, _, _⟩ ?_ rfl ?_ (by assumption) ?_
        rotate_left
        · (intro w hSw; (try dsimp only at hSw); go_simp; all_goals with_reducible rfl)
        try simp only [Act.put, sA, sB, sC]
        refine tkH 6 ⟨some 23, _, _, _, _, _⟩ ?_ rfl ?_ (by assumption) ?_
        rotate_left
        · (intro w hSw; (try dsimp only at hSw); go_simp; all_goals with_reducible rfl)
        try simp only [Act.put, sA, sB, sC]
        refine tkH 7 ⟨some 24, _, _, _, _, _⟩ ?_ rfl ?_ (by assumption) ?_
        rotate_left
        · (intro w hSw; (try dsimp only at hSw); go_simp; all_goals with_reducible rfl)
        try simp only [Act.put, sA, sB, sC]
        refine wpAnyH_ready (rs := [9]) (by kernel_rfl) (by simp) ?_
        refine AllReadyH.cons rfl (fun K hK => ?_) (AllReadyH.nil)
        have HBs : Hid (BlkF ((y3.setCell ⟨b7, 0, none⟩ (.int .i64 x)).setCell ⟨b7, 1, none⟩ (.int .i64 y)) x2.heap.size b7 [.int .i64 x, .int .i64 y]) := Lib.hid (BlkF.st (vs' := [.int .i64 x, .int .i64 y]) HNb7.out rfl)
        have hTs : Below x2.heap.size x2 ((y3.setCell ⟨b7, 0, none⟩ (.int .i64 x)).setCell ⟨b7, 1, none⟩ (.int .i64 y)) := stW_below HNb7.out.ge [.int .i64 x, .int .i64 y] y3 0 hT3
        obtain ⟨u_0, u_1⟩ := b2 HNb7.out
        have u_f := HNb7.out.fz
        go_simp
        go_wp2_with fail
        refine hK.out _ _ (HS.out _ hTs) (fun hHeld => ?_)
        clear hK K
        try simp only [Act.put, sA, sB, sC]
        clear u_f u_0 u_1
        clear HNb7
        generalize hs3 : ((y3.setCell ⟨b7, 0, none⟩ (.int .i64 x)).setCell ⟨b7, 1, none⟩ (.int .i64 y)) = y4 at *
        clear hs3
        have hT4 := hTs
        clear hTs
        have HNb7 := HBs
        clear HBs
        refine tkH 10 ⟨some 8, _, _, _, _, _⟩ ?_ rfl ?_ (by assumption) ?_
        rotate_left
        · (intro w hSw; (try dsimp only at hSw); go_simp; all_goals with_reducible rfl)
        try simp only [Act.put, sA, sB, sC]
        refine wpAnyH_done (by kernel_rfl) ?_ _
        go_wp2_with fail
        go_meet
        exact ⟨b7, rfl, rfl, Lib.hid (HNb7.out.lower hB2.size), Lib.hid (GB.out.below hT4), Lib.hid (RB.out.below hT4), hB2.trans (hT4.mono hB2.size)⟩
    · skip
      go_simp
      go_wp2_with fail
      refine hK.out _ _ (HS.out _ (hT0.alloc hT0.size _)) (fun hHeld => ?_)
      clear hK K
      try simp only [Act.put, sA, sB, sC]
      have HNb7 := Lib.hid (BlkF.made (B := x2.heap.size) y0 [.int .i64 0, .int .i64 0] 47 hT0.size)
      have hby0 : Below y0.heap.size y0 (y0.alloc (.cells #[.int .i64 0, .int .i64 0] 47)) := (Below.refl _ _).alloc (Nat.le_refl _) _
      have hnb7 : x2.heap.size ≤ y0.heap.size := hT0.size
      have exb7 : ∃ x, y0.heap.size = x := ⟨_, rfl⟩
      generalize hq0 : y0.alloc (.cells #[.int .i64 0, .int .i64 0] 47) = y1 at *
      have hT1 : Below x2.heap.size x2 y1 := hT0.trans (hby0.mono hT0.size)
      obtain ⟨b7, eb7⟩ := exb7
      rw [eb7] at HNb7 hnb7 ⊢
      clear hby0 hq0
      refine wpAnyH_ready (rs := [3]) (by kernel_rfl) (by simp) ?_
      refine AllReadyH.cons rfl (fun K hK => ?_) (AllReadyH.nil)
      go_simp
      refine (copyR_is T r AT tn tc _ htn ht6 (Lib.hid (hT.out.below (hB2.trans (hT1.mono hB2.size)))) CT).mono ?_
      rintro e y2 ⟨AT1, ct1, rfl, hst, hby1⟩
      have hT2 : Below x2.heap.size x2 y2 := hT1.trans (hby1.mono hT1.size)
      replace HNb7 := Lib.hid (HNb7.out.below hby1)
      have HT1 := Lib.hid hst
      clear hst
      clear hby1
      go_wp2_with fail
      refine hK.out _ _ (HS.out _ hT2) (fun hHeld => ?_)
      clear hK K
      try simp only [Act.put, sA, sB, sC]
      refine wpAnyH_ready (rs := [4]) (by kernel_rfl) (by simp) ?_
      refine AllReadyH.cons rfl (fun K hK => ?_) (AllReadyH.nil)
      go_simp
      refine (HRD.out AT1 ct1 _ HT1).mono ?_
      rintro e y3 ⟨rfl, hby2⟩
      have hT3 : Below x2.heap.size x2 y3 := hT2.trans (hby2.mono hT2.size)
      replace HNb7 := Lib.hid (HNb7.out.below hby2)
      replace HT1 := Lib.hid (HT1.out.below hby2)
      clear hby2
      go_wp2_with fail
      refine hK.out _ _ (HS.out _ hT3) (fun hHeld => ?_)
      clear hK K
      try simp only [Act.put, sA, sB, sC]
      refine tkH 5 ⟨some 17, _, _, _, _, _⟩ ?_ rfl ?_ (by assumption) ?_
      rotate_left
      · (intro w hSw; (try dsimp only at hSw); go_simp; all_goals with_reducible rfl)
      try simp only [Act.put, sA, sB, sC]
      refine tkH 6 ⟨some 23, _, _, _, _, _⟩ ?_ rfl ?_ (by assumption) ?_
      rotate_left
      · (intro w hSw; (try dsimp only at hSw); go_simp; all_goals with_reducible rfl)
      try simp only [Act.put, sA, sB, sC]
      refine tkH 7 ⟨some 24, _, _, _, _, _⟩ ?_ rfl ?_ (by assumption) ?_
      rotate_left
      · (intro w hSw; (try dsimp only at hSw); go_simp; all_goals with_reducible rfl)
      try simp only [Act.put, sA, sB, sC]
      refine wpAnyH_ready (rs := [9]) (by kernel_rfl) (by simp) ?_
      refine AllReadyH.cons rfl (fun K hK => ?_) (AllReadyH.nil)
      have HBs : Hid (BlkF ((y3.setCell ⟨b7, 0, none⟩ (.int .i64 x)).setCell ⟨b7, 1, none⟩ (.int .i64 y)) x2.heap.size b7 [.int .i64 x, .int .i64 y]) := Lib.hid (BlkF.st (vs' := [.int .i64 x, .int .i64 y]) HNb7.out rfl)
      have hTs : Below x2.heap.size x2 ((y3.setCell ⟨b7, 0, none⟩ (.int .i64 x)).setCell ⟨b7, 1, none⟩ (.int .i64 y)) := stW_below HNb7.out.ge [.int .i64 x, .int .i64 y] y3 0 hT3
      obtain ⟨u_0, u_1⟩ := b2 HNb7.out
      have u_f := HNb7.out.fz
      go_simp
      go_wp2_with fail
      refine hK.out _ _ (HS.out _ hTs) (fun hHeld => ?_)
      clear hK K
      try simp only [Act.put, sA, sB, sC]
      clear u_f u_0 u_1
      clear HNb7
      generalize hs3 : ((y3.setCell ⟨b7, 0, none⟩ (.int .i64 x)).setCell ⟨b7, 1, none⟩ (.int .i64 y)) = y4 at *
      clear hs3
      have hT4 := hTs
      clear hTs
      have HNb7 := HBs
      clear HBs
      refine tkH 10 ⟨some 8, _, _, _, _, _⟩ ?_ rfl ?_ (by assumption) ?_
      rotate_left
      · (intro w hSw; (try dsimp only at hSw); go_simp; all_goals with_reducible rfl)
      try simp only [Act.put, sA, sB, sC]
      refine wpAnyH_done (by kernel_rfl) ?_ _
      go_wp2_with fail
      go_meet
      exact ⟨b7, rfl, rfl, Lib.hid (HNb7.out.lower hB2.size), Lib.hid (GB.out.below hT4), Lib.hid (RB.out.below hT4), hB2.trans (hT4.mono hB2.size)⟩
  case rest =>
    obtain ⟨b7, rfl, rfl, XB, GB9, RB9, hBc⟩ := hcut
    clear GB RB GB_2_0 GB_2_1 lGB_2 nGB_2 mGB_2 RB_2_0 RB_2_1 RB_2_2 RB_2_3 RB_2_4 RB_2_5 RB_2_6 RB_2_7 RB_2_8 lRB_2 nRB_2 mRB_2
    have hB1 := hBc
    have zu1 := hB1.size
    have hc1 := hB1
    clear hBc
    obtain ⟨XB_1_0, XB_1_1⟩ := b2 XB.out
    have lXB_1 := XB.out.lt
    have nXB_1 : wc.heap.size ≠ b7 := by omega
    have mXB_1 : b7 ≠ wc.heap.size := by omega
    obtain ⟨GB9_1_0, GB9_1_1⟩ := b2 GB9.out
    have lGB9_1 := GB9.out.lt
    have nGB9_1 : wc.heap.size ≠ w.heap.size := by omega
    have mGB9_1 : w.heap.size ≠ wc.heap.size := by omega
    obtain ⟨RB9_1_0, RB9_1_1, RB9_1_2, RB9_1_3, RB9_1_4, RB9_1_5, RB9_1_6, RB9_1_7, RB9_1_8⟩ := b9 RB9.out
    have lRB9_1 := RB9.out.lt
    have nRB9_1 : wc.heap.size ≠ w.heap.size + 1 := by omega
    have mRB9_1 : w.heap.size + 1 ≠ wc.heap.size := by omega
    go_wp2_with fail
    refine (gasErr_is o h s T r AT tn tc E1 E2 E3 0 _ htn htl (Lib.hid (hT.out.below hB1)) hE1 hE2 hE3 hE).mono ?_
    rintro e x2 ⟨rfl, hb2⟩
    have hc2 : Below wc.heap.size wc x2 := hb2
    have hB2 : Below w.heap.size w x2 := hB1.trans (hc2.mono hB1.size)
    have zu2 := hB2.size
    replace XB := Lib.hid (XB.out.below hc2)
    replace GB9 := Lib.hid (GB9.out.below hc2)
    replace RB9 := Lib.hid (RB9.out.below hc2)
    clear XB_1_0 XB_1_1 lXB_1 nXB_1 mXB_1 GB9_1_0 GB9_1_1 lGB9_1 nGB9_1 mGB9_1 RB9_1_0 RB9_1_1 RB9_1_2 RB9_1_3 RB9_1_4 RB9_1_5 RB9_1_6 RB9_1_7 RB9_1_8 lRB9_1 nRB9_1 mRB9_1
    clear hb2 hB1 zu1 hc1
    obtain ⟨XB_2_0, XB_2_1⟩ := b2 XB.out
    have lXB_2 := XB.out.lt
    have nXB_2 : x2.heap.size ≠ b7 := by omega
    have mXB_2 : b7 ≠ x2.heap.size := by omega
    obtain ⟨GB9_2_0, GB9_2_1⟩ := b2 GB9.out
    have lGB9_2 := GB9.out.lt
    have nGB9_2 : x2.heap.size ≠ w.heap.size := by omega
    have mGB9_2 : w.heap.size ≠ x2.heap.size := by omega
    obtain ⟨RB9_2_0, RB9_2_1, RB9_2_2, RB9_2_3, RB9_2_4, RB9_2_5, RB9_2_6, RB9_2_7, RB9_2_8⟩ := b9 RB9.out
    have lRB9_2 := RB9.out.lt
    have nRB9_2 : x2.heap.size ≠ w.heap.size + 1 := by omega
    have mRB9_2 : w.heap.size + 1 ≠ x2.heap.size := by omega
    go_wp2_with fail
    refine (refDepthsOf_is o h s T r AT tn tc x y true _ hg s0 s1 hru hP).mono ?_
    rintro e x3 ⟨rfl, hb3⟩
    have hc3 : Below x2.heap.size x2 x3 := hb3
    have hB3 : Below w.heap.size w x3 := hB2.trans (hc3.mono hB2.size)
    have zu3 := hB3.size
    replace XB := Lib.hid (XB.out.below hc3)
    replace GB9 := Lib.hid (GB9.out.below hc3)
    replace RB9 := Lib.hid (RB9.out.below hc3)
    clear XB_2_0 XB_2_1 lXB_2 nXB_2 mXB_2 GB9_2_0 GB9_2_1 lGB9_2 nGB9_2 mGB9_2 RB9_2_0 RB9_2_1 RB9_2_2 RB9_2_3 RB9_2_4 RB9_2_5 RB9_2_6 RB9_2_7 RB9_2_8 lRB9_2 nRB9_2 mRB9_2
    clear hb3 hB2 zu2 hc2
    obtain ⟨XB_3_0, XB_3_1⟩ := b2 XB.out
    have lXB_3 := XB.out.lt
    have nXB_3 : x3.heap.size ≠ b7 := by omega
    have mXB_3 : b7 ≠ x3.heap.size := by omega
    obtain ⟨GB9_3_0, GB9_3_1⟩ := b2 GB9.out
    have lGB9_3 := GB9.out.lt
    have nGB9_3 : x3.heap.size ≠ w.heap.size := by omega
    have mGB9_3 : w.heap.size ≠ x3.heap.size := by omega
    obtain ⟨RB9_3_0, RB9_3_1, RB9_3_2, RB9_3_3, RB9_3_4, RB9_3_5, RB9_3_6, RB9_3_7, RB9_3_8⟩ := b9 RB9.out
    have lRB9_3 := RB9.out.lt
    have nRB9_3 : x3.heap.size ≠ w.heap.size + 1 := by omega
    have mRB9_3 : w.heap.size + 1 ≠ x3.heap.size := by omega
    go_wp2
    go_ret
    exact ⟨rfl, hB3.alloc hB3.size _⟩
theorem exposureDepths_r (o h s : Int) (T : List Ox) (r : Ru) (AT : Option Addr) (tn tc : Nat) (w : World) (htn : Hid (tn = T.length)) (htl : tn ≤ 9223372036854775807) (hT : Hid (SlRows oxV 2 w AT T)) (CT : Hid (AT = none → tn = 0 ∧ tc = 0)) :
    Calls Try.prog 8 #[.agg #[.int .i64 o, .int .i64 h], .int .i64 s, .agg #[.slice AT tn tc, .int .i64 r.a, .int .i64 r.b, .int .i64 r.nc, .int .i64 r.dn, .int .i64 r.br, .int .i64 r.em, .int .i64 r.pa, .int .i64 r.sc]] w fun e w' => e = .returned (.bool true) ∧ Below w.heap.size w w' := by
  cases hF : fewB tn with
  | false => exact dep_few o h s T r AT tn tc w htn htl hT CT (Lib.hid hF)
  | true =>
    have H : ∀ (E : Int), firE [gasE o h, rngE s 400 1100, ruE T r] = E → ∀ (Ga : Option Addr) (c : Nat) (X : World), Hid (SlRows oxV 2 X Ga T) → Calls Try.prog 37 #[.agg #[.int .i64 o, .int .i64 h], .int .i64 s, .agg #[.slice Ga tn c, .int .i64 r.a, .int .i64 r.b, .int .i64 r.nc, .int .i64 r.dn, .int .i64 r.br, .int .i64 r.em, .int .i64 r.pa, .int .i64 r.sc]] X fun e w' => (¬ E = 0 ∧ e = .returned (.tuple #[.agg #[.int .i64 0, .int .i64 0], .int .i64 E]) ∧ Below X.heap.size X w') ∨ (E = 0 ∧ e = .returned (.tuple #[.agg #[.int .i64 (dptP r o h s).1, .int .i64 (dptP r o h s).2.1], .int .i64 (dptP r o h s).2.2]) ∧ Below X.heap.size X w') := fun E hE Ga c X hX => DepthsOf_any o h s T r Ga tn c _ _ _ E X htn htl hX (Lib.hid rfl) (Lib.hid rfl) (Lib.hid rfl) (Lib.hid hE)
    by_cases hE : firE [gasE o h, rngE s 400 1100, ruE T r] = 0
    · have ha := firE_all hE
      have e1 : gasE o h = 0 := ha _ (by simp)
      have e2 := rngE_bd (ha (rngE s 400 1100) (by simp))
      have e3 : ruE T r = 0 := ha _ (by simp)
      have HG : ∀ (Ga : Option Addr) (c : Nat) (X : World), Hid (SlRows oxV 2 X Ga T) → Calls Try.prog 37 #[.agg #[.int .i64 o, .int .i64 h], .int .i64 s, .agg #[.slice Ga tn c, .int .i64 r.a, .int .i64 r.b, .int .i64 r.nc, .int .i64 r.dn, .int .i64 r.br, .int .i64 r.em, .int .i64 r.pa, .int .i64 r.sc]] X fun e w' => e = .returned (.tuple #[.agg #[.int .i64 (dptP r o h s).1, .int .i64 (dptP r o h s).2.1], .int .i64 (dptP r o h s).2.2]) ∧ Below X.heap.size X w' := fun Ga c X hX => (H 0 hE Ga c X hX).mono fun e w' h => h.elim (fun h => absurd rfl h.1) (fun h => h.2)
      by_cases hd : dpt (deepP r o h s) 30001 ≤ dpt (poorP r o s) 30001
      · have hp : dptP r o h s = (0, 0, 12) := by unfold dptP; rw [if_pos hd]
        rw [hp] at HG
        exact dep_none o h s T r AT tn tc 0 0 _ _ _ w htn htl hT CT (Lib.hid hF) (Lib.hid rfl) (Lib.hid rfl) (Lib.hid rfl) (Lib.hid hE) (Lib.hid e1) e2.1 e2.2 (Lib.hid (ru_ok e3)) (Lib.hid (by rw [hp]; exact ⟨rfl, rfl, rfl⟩)) (Lib.hid rfl) (Lib.hid rfl) (Lib.hid HG)
      · have hp : dptP r o h s = ((dpt (poorP r o s) 30001 : Int), (dpt (deepP r o h s) 30001 : Int) - 1, 0) := by unfold dptP; rw [if_neg hd]
        rw [hp] at HG
        exact dep_good o h s T r AT tn tc _ _ _ _ _ w htn htl hT CT (Lib.hid hF) (Lib.hid rfl) (Lib.hid rfl) (Lib.hid rfl) (Lib.hid hE) (Lib.hid e1) e2.1 e2.2 (Lib.hid (ru_ok e3)) (Lib.hid (by rw [hp]; exact ⟨rfl, rfl, rfl⟩)) (Lib.hid HG)
    · exact dep_err o h s T r AT tn tc _ _ _ _ w htn htl hT CT (Lib.hid hF) (Lib.hid rfl) (Lib.hid rfl) (Lib.hid rfl) (Lib.hid rfl) (by simpa using hE) (by simpa using hE) (Lib.hid fun Ga c X hX => (H _ rfl Ga c X hX).mono fun e w' h => h.elim (fun h => h.2) (fun h => absurd h.1 hE))
theorem nilCap {α : Type} {f : α → List Value} {k : Nat} {w : World} {A : Option Addr} {L : List α} {c : Nat} (h : SlRows f k w A L) (hn : A = none → c = 0) : A = none → L.length = 0 ∧ c = 0 := fun e => by
  rcases h with h | ⟨b, o, h, _⟩
  · exact ⟨by rw [h]; rfl, hn e⟩
  · rw [e] at h; cases h
theorem exposureDepths_any (o h : Int) (s : Int) (T : List Ox) (A : Option Addr) (cap : Nat) (ra rb rnc rdn rbr rem rpa rsc : Int) (w : World) (hTl : T.length ≤ 9223372036854775807) (hTn : A = none → cap = 0) (hTs : SlRows oxV 2 w A T) :
    Calls Try.prog 8 #[.agg #[.int .i64 o, .int .i64 h], .int .i64 s, .agg #[.slice A T.length cap, .int .i64 ra, .int .i64 rb, .int .i64 rnc, .int .i64 rdn, .int .i64 rbr, .int .i64 rem, .int .i64 rpa, .int .i64 rsc]] w fun e w' => e = .returned (.bool true) ∧ Below w.heap.size w w' := by
  exact exposureDepths_r o h s T ⟨ra, rb, rnc, rdn, rbr, rem, rpa, rsc⟩ A T.length cap w (Lib.hid rfl) hTl (Lib.hid hTs) (Lib.hid (nilCap hTs hTn))
end Go.Proofs.Ytijdphlejokijaa
