import Derived.Test.YtojaompfffpofaaGreatZASRefRn
import Derived.Outline
namespace Go.Proofs.YtojaompfffpofaaGreat
open Go.ChangeShapes Go.WideShapes Go.ChangeAt Go.RowKit
set_option linter.unusedVariables false
set_option linter.unusedSimpArgs false
attribute [local go_sem ↓] Go.wp_at_zero Go.wp_at_succ
theorem firE_6 {x y : Int} (h : x ≠ 0) : firE [x, y] = x := by unfold firE; rw [if_neg h]
theorem firE_02 {y : Int} : firE [0, y] = y := by
  unfold firE firE firE
  by_cases h : y = 0
  · rw [if_pos rfl, if_pos h, h]
  · rw [if_pos rfl, if_neg h]
set_option maxRecDepth 100000 in
set_option maxHeartbeats 4000000 in
theorem refRun_any (A B Aq As : Option Addr) (n ca cb l l2 cq cs : Nat) (Pl : List ByteArray) (M : List (List Int)) (bg : Int) (Q Z : List Int) (E : Int) (w : World) (hl : n ≤ 12) (hl3 : l ≤ 1000000) (hl4 : l2 ≤ 1000000) (HC : Hid (ChSl w A B n Pl M)) (hq : Hid (l = Q.length)) (hq2 : Hid (l2 = Z.length)) (HQ : Hid (SlRows intV 1 w Aq Q)) (HZ : Hid (SlRows intV 1 w As Z)) (hE : Hid (runE n M bg Q Z = E)) :
    Calls Tryz.prog 52 #[.agg #[.slice A n ca, .slice B n cb], .agg #[.int .i64 bg, .slice Aq l cq, .slice As l2 cs]] w fun e w' => e = .returned (.int .i64 E) ∧ Below w.heap.size w w' := by
  have he := hE.out
  unfold runE at he
  rw [← hq.out, ← hq2.out] at he
  clear hE
  by_cases h0 : l = 0
  · rw [if_pos (Or.inl h0)] at he
    have HE := Lib.hid he
    subst h0
    clear he
    go_enter Tryz.func52, Tryz.ntmps52
    go_wp2
    go_ret
    exact ⟨ret_int HE.out, (by (repeat (first | (with_reducible refine Below.drew ?_) | (with_reducible refine below_drewN ?_ _) | (with_reducible refine Below.alloc ?_ (by first | omega | (simp; done) | (simp; omega) | (simp at *; omega)) _) | (with_reducible refine Below.setCell ?_ (by first | omega | (simp; done) | (simp; omega) | (simp at *; omega)) _) | (with_reducible exact Below.refl _ _) | (with_reducible assumption) | (with_reducible refine Below.trans ?_ (Below.mono (by assumption) (by first | omega | (simp; done) | (simp; omega) | (simp at *; omega)))))))⟩
  have i0 : ((l : Int) == 0) = false := by simp; omega
  have i9 : ¬ (l : Int) = 0 := by omega
  by_cases h2 : l2 = l
  · rw [if_neg (fun h => h.elim h0 (fun h => h h2))] at he
    subst h2
    by_cases h12 : 12 < l2
    · rw [if_pos h12] at he
      have HE := Lib.hid he
      have i1 : (12 : Int) < (l2 : Int) := by omega
      clear he
      go_enter Tryz.func52, Tryz.ntmps52
      go_wp2
      go_ret
      exact ⟨ret_int HE.out, (by (repeat (first | (with_reducible refine Below.drew ?_) | (with_reducible refine below_drewN ?_ _) | (with_reducible refine Below.alloc ?_ (by first | omega | (simp; done) | (simp; omega) | (simp at *; omega)) _) | (with_reducible refine Below.setCell ?_ (by first | omega | (simp; done) | (simp; omega) | (simp at *; omega)) _) | (with_reducible exact Below.refl _ _) | (with_reducible assumption) | (with_reducible refine Below.trans ?_ (Below.mono (by assumption) (by first | omega | (simp; done) | (simp; omega) | (simp at *; omega)))))))⟩
    rw [if_neg h12] at he
    have i1 : ¬ (12 : Int) < (l2 : Int) := by omega
    rcases inB_cases bg 0 1000000 with hbg | hbg
    · rw [rngE_t hbg, if_pos rfl] at he
      have HE := Lib.hid he
      have H0 := Lib.hid hbg
      clear he hbg
      go_enter Tryz.func52, Tryz.ntmps52
      go_upto_region 1 with (fail)
      refine wp_world (RnU w A B Aq As n ca cb l2 cq cs bg w.heap.size (w.heap.size + 1)) (RnU.boxes w A B Aq As n ca cb l2 cq cs bg) (fun u hu => ?_)
      have HU := Lib.hid hu
      obtain ⟨c0, c1, r0, r1, r2, lc, lr, be⟩ := hu
      have HCU := Lib.hid (HC.out.below be)
      have HQU := Lib.hid (HQ.out.below be)
      have HZU := Lib.hid (HZ.out.below be)
      have HBE := Lib.hid be
      clear be HC HQ HZ
      generalize w.heap.size + 1 = br at *
      have HBE2 : Hid (∀ x, Below u.heap.size u x → BelS w x) := Lib.hid fun x hx => HBE.out.trans (hx.mono HBE.out.size)
      generalize w.heap.size = bc at *
      go_wp2_with ((go_at_call 39; ((with_reducible refine (isMin_is _ _ _ H0).mono ?_)); rintro e w' ⟨rfl, rfl⟩))
      go_loopw [5] (fun i wr => ∃ k : Nat, k ≤ l2 ∧ i = .int .i64 k ∧ Hid (fsN (stpE n M Q Z) k = 0) ∧ Below u.heap.size u wr) (fun i _ => l2 - (intOf i).toNat)
      case atStart => exact ⟨0, by omega, rfl, Lib.hid rfl, Below.refl _ _⟩
      case round =>
        clear c0 c1 r0 r1 r2
        obtain ⟨k, hk, rfl, hz, hB⟩ := hrel
        obtain ⟨c0, c1, r0, r1, r2, lcw, lrw, _⟩ := HU.out.step hB
        by_cases hkl : k < l2
        · have kl : (k : Int) < (l2 : Int) := by omega
          have hkQ : k < Q.length := by rw [← hq.out]; exact hkl
          have hzl : Z.length = Q.length := by rw [← hq.out, ← hq2.out]
          obtain ⟨qb, qo, rfl, lq, cqc⟩ := sl_at (HQU.out.below hB) hkQ
          obtain ⟨sb, so, rfl, ls, csc⟩ := sl_at (HZU.out.below hB) (i := k) (by rw [hzl]; exact hkQ)
          have hpre := fsN_all hz.out
          obtain ⟨pv, hpv⟩ : ∃ x, Hid (Q.getD k 0 = x) := ⟨_, Lib.hid rfl⟩
          obtain ⟨sv, hsv⟩ : ∃ x, Hid (Z.getD k 0 = x) := ⟨_, Lib.hid rfl⟩
          have d0 := cqc k hkQ
          have d1 := csc k (by rw [hzl]; exact hkQ)
          rw [hpv.out] at d0
          rw [hsv.out] at d1
          have w1 : IntKind.i64.wrap ((n : Int) - 1) = (n : Int) - 1 := IntWalk.i64_in _ (by omega)
          have stop : ∀ v : Int, stpE n M Q Z k = v → v ≠ 0 → E = v := fun v h1 h2 => by
            rw [← HE.out, fsN_stop hz.out (by rw [h1]; exact h2) l2 hkl, h1]
          have on : stpE n M Q Z k = 0 → Hid (fsN (stpE n M Q Z) (k + 1) = 0) := fun h => Lib.hid (fsN_on hz.out h)
          have hst : stpE n M Q Z k = if firE [plcE n pv, rngE sv 0 10000] = 0 then (if 0 < k ∧ mAt M (Q.getD (k - 1) 0).toNat pv.toNat = -1 then 14 else 0) else firE [plcE n pv, rngE sv 0 10000] := by unfold stpE; rw [hpv.out, hsv.out]
          rcases inB_cases pv 0 ((n : Int) - 1) with hp | hp
          · have hp0 : plcE n pv = 0 := by unfold plcE; rw [if_pos hp]
            obtain ⟨p, hpn, rfl⟩ := plcE_nat hp0
            rw [hp0, firE_02] at hst
            have H1 := Lib.hid hp
            rcases inB_cases sv 0 10000 with hs | hs
            · rw [rngE_t hs, if_pos rfl] at hst
              have H2 := Lib.hid hs
              by_cases hk0 : k = 0
              · have hz2 := on (by rw [hst, if_neg (fun h => by omega)])
                subst hk0
                rw [Nat.add_zero] at d0 d1
                have l0i : (0 : Int) < (l2 : Int) := by omega
                clear hst stop on hz hpre hp hs cqc csc
                go_upto_region 10 with (fail)
                refine wp_region_held_drew (S := (fun w' => w'.cell? ⟨br, 1, none⟩ = some (.slice (some ⟨qb, qo, none⟩) l2 cq) ∧ w'.cell? ⟨bc, 0, none⟩ = some (.slice A n ca) ∧ w'.cell? ⟨qb, qo, none⟩ = some (.int .i64 p))) (by kernel_rfl) (by simp [go_sem, World.cell?_alloc_past, *]) (fun hHeld => ?_)
                refine tkH 0 ⟨some 34, _, _, _, _, _⟩ ?_ rfl ?_ (by assumption) ?_
                rotate_left
                · (intro w hSw; (try dsimp only at hSw); go_simp; all_goals with_reducible rfl)
                try simp only [Act.put, sA, sB, sC]
                refine tkH 1 ⟨some 35, _, _, _, _, _⟩ ?_ rfl ?_ (by assumption) ?_
                rotate_left
                · (intro w hSw; (try dsimp only at hSw); go_simp; all_goals with_reducible rfl)
                try simp only [Act.put, sA, sB, sC]
                refine tkH 2 ⟨some 36, _, _, _, _, _⟩ ?_ rfl ?_ (by assumption) ?_
                rotate_left
                · (intro w hSw; (try dsimp only at hSw); go_simp; all_goals with_reducible rfl)
                try simp only [Act.put, sA, sB, sC]
                refine tkH 3 ⟨some 37, _, _, _, _, _⟩ ?_ rfl ?_ (by assumption) ?_
                rotate_left
                · (intro w hSw; (try dsimp only at hSw); go_simp; all_goals with_reducible rfl)
                try simp only [Act.put, sA, sB, sC]
                refine tkH 4 ⟨some 38, _, _, _, _, _⟩ ?_ rfl ?_ (by assumption) ?_
                rotate_left
                · (intro w hSw; (try dsimp only at hSw); go_simp; all_goals with_reducible rfl)
                try simp only [Act.put, sA, sB, sC]
                refine tkH 5 ⟨some 39, _, _, _, _, _⟩ ?_ rfl ?_ (by assumption) ?_
                rotate_left
                · (intro w hSw; (try dsimp only at hSw); go_simp; all_goals with_reducible rfl)
                try simp only [Act.put, sA, sB, sC]
                refine tkH 6 ⟨some 40, _, _, _, _, _⟩ ?_ rfl ?_ (by assumption) ?_
                rotate_left
                · (intro w hSw; (try dsimp only at hSw); go_simp; all_goals with_reducible rfl)
                try simp only [Act.put, sA, sB, sC]
                refine tkH 7 ⟨some 41, _, _, _, _, _⟩ ?_ rfl ?_ (by assumption) ?_
                rotate_left
                · (intro w hSw; (try dsimp only at hSw); go_simp; all_goals with_reducible rfl)
                try simp only [Act.put, sA, sB, sC]
                refine tkH 8 ⟨some 42, _, _, _, _, _⟩ ?_ rfl ?_ (by assumption) ?_
                rotate_left
                · (intro w hSw; (try dsimp only at hSw); go_simp; all_goals with_reducible rfl)
                try simp only [Act.put, sA, sB, sC]
                refine wpAnyH_ready (rs := [9]) (by kernel_rfl) (by simp) ?_
                refine AllReadyH.cons rfl (fun K hK => ?_) AllReadyH.nil
                go_simp
                refine (bWth_is _ _ _ _ _ H1).mono ?_
                rintro e w' ⟨rfl, rfl⟩
                go_wp2_with fail
                refine hK.out _ _ (by simp [go_sem, World.cell?_alloc_past, *]) (fun hHeld => ?_)
                clear hK K
                try simp only [Act.put, sA, sB, sC]
                refine tkH 10 ⟨some 44, _, _, _, _, _⟩ ?_ rfl ?_ (by assumption) ?_
                rotate_left
                · (intro w hSw; (try dsimp only at hSw); go_simp; all_goals with_reducible rfl)
                try simp only [Act.put, sA, sB, sC]
                refine wpAnyH_done (by kernel_rfl) ?_ _
                go_wp2_with ((go_at_call 23; ((with_reducible refine (bWth_is _ _ _ _ _ H2).mono ?_)); rintro e w' ⟨rfl, rfl⟩))
                go_big_quiet (fail)
                go_wp2
                go_roundw
                case rel => exact ⟨0 + 1, by omega, by first | rfl | go_num, hz2, (by (repeat (first | (with_reducible refine Below.drew ?_) | (with_reducible refine below_drewN ?_ _) | (with_reducible refine Below.alloc ?_ (by first | omega | (simp; done) | (simp; omega) | (simp at *; omega)) _) | (with_reducible refine Below.setCell ?_ (by first | omega | (simp; done) | (simp; omega) | (simp at *; omega)) _) | (with_reducible exact Below.refl _ _) | (with_reducible assumption) | (with_reducible refine Below.trans ?_ (Below.mono (by assumption) (by first | omega | (simp; done) | (simp; omega) | (simp at *; omega)))))))⟩
                case measure => (simp [intOf]) <;> omega
              · obtain ⟨⟨p', hp', ep'⟩, _, _⟩ := stpE_0 (hpre (k - 1) (by omega))
                obtain ⟨mb, mo, C, cr, rfl, lm, e1, csp, lrb, e2⟩ := (HCU.out.below hB).at hp'
                obtain ⟨rb, ro, sp⟩ := C
                dsimp only at csp lrb e2
                subst csp
                have e3 := e2 p hpn
                clear e2
                have d2 := cqc (k - 1) (by omega)
                rw [ep'] at hst d2
                simp only [Int.toNat_natCast] at hst
                have hbd := HCU.out.ok.bnd p' p (by rw [← HCU.out.hn]; exact hp') (by rw [← HCU.out.hn]; exact hpn)
                obtain ⟨x, hx⟩ : ∃ x, Hid (mAt M p' p = x) := ⟨_, Lib.hid rfl⟩
                have hs14 : mAt M p' p = -1 → stpE n M Q Z k = 14 := fun h => by rw [hst, if_pos ⟨by omega, h⟩]
                have hs00 : mAt M p' p ≠ -1 → stpE n M Q Z k = 0 := fun h => by rw [hst, if_neg (fun h2 => h h2.2)]
                clear hst
                rw [hx.out] at hs14 hs00 hbd e3
                have pn : (p : Int) < (n : Int) := by omega
                have pn' : (p' : Int) < (n : Int) := by omega
                have w2 : IntKind.i64.wrap ((k : Int) - 1) = (k : Int) - 1 := IntWalk.i64_in _ (by omega)
                have j2 : (0 : Int) ≤ (k : Int) - 1 := by omega
                have j2' : (1 : Int) ≤ (k : Int) := by omega
                have j3 : ((k : Int) - 1).toNat = k - 1 := by omega
                have j4 : (k : Int) - 1 < (l2 : Int) := by omega
                have kp : (0 : Int) < (k : Int) := by omega
                have kd : decide ((0 : Int) < (k : Int)) = true := by simpa using kp
                have kdn : decide (0 < k) = true := by simp; omega
                have ek : decide (x < 0) = decide (x < 0) := rfl
                by_cases hx1 : x = -1
                · have hr : Hid (E = 14) := Lib.hid (stop 14 (hs14 hx1) (by omega))
                  subst hx1
                  clear hs14 hs00 stop on hz hpre hp hs cqc csc hbd ek
                  go_upto_region 10 with (fail)
                  refine wp_region_held_drew (S := (fun w' => w'.cell? ⟨br, 1, none⟩ = some (.slice (some ⟨qb, qo, none⟩) l2 cq) ∧ w'.cell? ⟨bc, 0, none⟩ = some (.slice A n ca) ∧ w'.cell? ⟨qb, qo + k, none⟩ = some (.int .i64 p))) (by kernel_rfl) (by simp [go_sem, World.cell?_alloc_past, *]) (fun hHeld => ?_)
                  refine tkH 0 ⟨some 34, _, _, _, _, _⟩ ?_ rfl ?_ (by assumption) ?_
                  rotate_left
                  · (intro w hSw; (try dsimp only at hSw); go_simp; all_goals with_reducible rfl)
                  try simp only [Act.put, sA, sB, sC]
                  refine tkH 1 ⟨some 35, _, _, _, _, _⟩ ?_ rfl ?_ (by assumption) ?_
                  rotate_left
                  · (intro w hSw; (try dsimp only at hSw); go_simp; all_goals with_reducible rfl)
                  try simp only [Act.put, sA, sB, sC]
                  refine tkH 2 ⟨some 36, _, _, _, _, _⟩ ?_ rfl ?_ (by assumption) ?_
                  rotate_left
                  · (intro w hSw; (try dsimp only at hSw); go_simp; all_goals with_reducible rfl)
                  try simp only [Act.put, sA, sB, sC]
                  refine tkH 3 ⟨some 37, _, _, _, _, _⟩ ?_ rfl ?_ (by assumption) ?_
                  rotate_left
                  · (intro w hSw; (try dsimp only at hSw); go_simp; all_goals with_reducible rfl)
                  try simp only [Act.put, sA, sB, sC]
                  refine tkH 4 ⟨some 38, _, _, _, _, _⟩ ?_ rfl ?_ (by assumption) ?_
                  rotate_left
                  · (intro w hSw; (try dsimp only at hSw); go_simp; all_goals with_reducible rfl)
                  try simp only [Act.put, sA, sB, sC]
                  refine tkH 5 ⟨some 39, _, _, _, _, _⟩ ?_ rfl ?_ (by assumption) ?_
                  rotate_left
                  · (intro w hSw; (try dsimp only at hSw); go_simp; all_goals with_reducible rfl)
                  try simp only [Act.put, sA, sB, sC]
                  refine tkH 6 ⟨some 40, _, _, _, _, _⟩ ?_ rfl ?_ (by assumption) ?_
                  rotate_left
                  · (intro w hSw; (try dsimp only at hSw); go_simp; all_goals with_reducible rfl)
                  try simp only [Act.put, sA, sB, sC]
                  refine tkH 7 ⟨some 41, _, _, _, _, _⟩ ?_ rfl ?_ (by assumption) ?_
                  rotate_left
                  · (intro w hSw; (try dsimp only at hSw); go_simp; all_goals with_reducible rfl)
                  try simp only [Act.put, sA, sB, sC]
                  refine tkH 8 ⟨some 42, _, _, _, _, _⟩ ?_ rfl ?_ (by assumption) ?_
                  rotate_left
                  · (intro w hSw; (try dsimp only at hSw); go_simp; all_goals with_reducible rfl)
                  try simp only [Act.put, sA, sB, sC]
                  refine wpAnyH_ready (rs := [9]) (by kernel_rfl) (by simp) ?_
                  refine AllReadyH.cons rfl (fun K hK => ?_) AllReadyH.nil
                  go_simp
                  refine (bWth_is _ _ _ _ _ H1).mono ?_
                  rintro e w' ⟨rfl, rfl⟩
                  go_wp2_with fail
                  refine hK.out _ _ (by simp [go_sem, World.cell?_alloc_past, *]) (fun hHeld => ?_)
                  clear hK K
                  try simp only [Act.put, sA, sB, sC]
                  refine tkH 10 ⟨some 44, _, _, _, _, _⟩ ?_ rfl ?_ (by assumption) ?_
                  rotate_left
                  · (intro w hSw; (try dsimp only at hSw); go_simp; all_goals with_reducible rfl)
                  try simp only [Act.put, sA, sB, sC]
                  refine wpAnyH_done (by kernel_rfl) ?_ _
                  go_wp2_with ((go_at_call 23; ((with_reducible refine (bWth_is _ _ _ _ _ H2).mono ?_)); rintro e w' ⟨rfl, rfl⟩))
                  go_big_quiet (fail)
                  go_wp2
                  go_ret
                  exact ⟨ret_int hr.out.symm, HBE2.out _ (by (repeat (first | (with_reducible refine Below.drew ?_) | (with_reducible refine below_drewN ?_ _) | (with_reducible refine Below.alloc ?_ (by first | omega | (simp; done) | (simp; omega) | (simp at *; omega)) _) | (with_reducible refine Below.setCell ?_ (by first | omega | (simp; done) | (simp; omega) | (simp at *; omega)) _) | (with_reducible exact Below.refl _ _) | (with_reducible assumption) | (with_reducible refine Below.trans ?_ (Below.mono (by assumption) (by first | omega | (simp; done) | (simp; omega) | (simp at *; omega)))))))⟩
                · have hz2 := on (hs00 hx1)
                  have jx : decide (x < 0) = false := by simp; omega
                  have jx2 : ¬ x < 0 := by omega
                  clear hs14 hs00 stop on hz hpre hp hs cqc csc ek
                  go_upto_region 10 with (fail)
                  refine wp_region_held_drew (S := (fun w' => w'.cell? ⟨br, 1, none⟩ = some (.slice (some ⟨qb, qo, none⟩) l2 cq) ∧ w'.cell? ⟨bc, 0, none⟩ = some (.slice A n ca) ∧ w'.cell? ⟨qb, qo + k, none⟩ = some (.int .i64 p))) (by kernel_rfl) (by simp [go_sem, World.cell?_alloc_past, *]) (fun hHeld => ?_)
                  refine tkH 0 ⟨some 34, _, _, _, _, _⟩ ?_ rfl ?_ (by assumption) ?_
                  rotate_left
                  · (intro w hSw; (try dsimp only at hSw); go_simp; all_goals with_reducible rfl)
                  try simp only [Act.put, sA, sB, sC]
                  refine tkH 1 ⟨some 35, _, _, _, _, _⟩ ?_ rfl ?_ (by assumption) ?_
                  rotate_left
                  · (intro w hSw; (try dsimp only at hSw); go_simp; all_goals with_reducible rfl)
                  try simp only [Act.put, sA, sB, sC]
                  refine tkH 2 ⟨some 36, _, _, _, _, _⟩ ?_ rfl ?_ (by assumption) ?_
                  rotate_left
                  · (intro w hSw; (try dsimp only at hSw); go_simp; all_goals with_reducible rfl)
                  try simp only [Act.put, sA, sB, sC]
                  refine tkH 3 ⟨some 37, _, _, _, _, _⟩ ?_ rfl ?_ (by assumption) ?_
                  rotate_left
                  · (intro w hSw; (try dsimp only at hSw); go_simp; all_goals with_reducible rfl)
                  try simp only [Act.put, sA, sB, sC]
                  refine tkH 4 ⟨some 38, _, _, _, _, _⟩ ?_ rfl ?_ (by assumption) ?_
                  rotate_left
                  · (intro w hSw; (try dsimp only at hSw); go_simp; all_goals with_reducible rfl)
                  try simp only [Act.put, sA, sB, sC]
                  refine tkH 5 ⟨some 39, _, _, _, _, _⟩ ?_ rfl ?_ (by assumption) ?_
                  rotate_left
                  · (intro w hSw; (try dsimp only at hSw); go_simp; all_goals with_reducible rfl)
                  try simp only [Act.put, sA, sB, sC]
                  refine tkH 6 ⟨some 40, _, _, _, _, _⟩ ?_ rfl ?_ (by assumption) ?_
                  rotate_left
                  · (intro w hSw; (try dsimp only at hSw); go_simp; all_goals with_reducible rfl)
                  try simp only [Act.put, sA, sB, sC]
                  refine tkH 7 ⟨some 41, _, _, _, _, _⟩ ?_ rfl ?_ (by assumption) ?_
                  rotate_left
                  · (intro w hSw; (try dsimp only at hSw); go_simp; all_goals with_reducible rfl)
                  try simp only [Act.put, sA, sB, sC]
                  refine tkH 8 ⟨some 42, _, _, _, _, _⟩ ?_ rfl ?_ (by assumption) ?_
                  rotate_left
                  · (intro w hSw; (try dsimp only at hSw); go_simp; all_goals with_reducible rfl)
                  try simp only [Act.put, sA, sB, sC]
                  refine wpAnyH_ready (rs := [9]) (by kernel_rfl) (by simp) ?_
                  refine AllReadyH.cons rfl (fun K hK => ?_) AllReadyH.nil
                  go_simp
                  refine (bWth_is _ _ _ _ _ H1).mono ?_
                  rintro e w' ⟨rfl, rfl⟩
                  go_wp2_with fail
                  refine hK.out _ _ (by simp [go_sem, World.cell?_alloc_past, *]) (fun hHeld => ?_)
                  clear hK K
                  try simp only [Act.put, sA, sB, sC]
                  refine tkH 10 ⟨some 44, _, _, _, _, _⟩ ?_ rfl ?_ (by assumption) ?_
                  rotate_left
                  · (intro w hSw; (try dsimp only at hSw); go_simp; all_goals with_reducible rfl)
                  try simp only [Act.put, sA, sB, sC]
                  refine wpAnyH_done (by kernel_rfl) ?_ _
                  go_wp2_with ((go_at_call 23; ((with_reducible refine (bWth_is _ _ _ _ _ H2).mono ?_)); rintro e w' ⟨rfl, rfl⟩))
                  go_big_quiet (fail)
                  go_wp2
                  go_roundw
                  case rel => exact ⟨k + 1, by omega, by go_num, hz2, (by (repeat (first | (with_reducible refine Below.drew ?_) | (with_reducible refine below_drewN ?_ _) | (with_reducible refine Below.alloc ?_ (by first | omega | (simp; done) | (simp; omega) | (simp at *; omega)) _) | (with_reducible refine Below.setCell ?_ (by first | omega | (simp; done) | (simp; omega) | (simp at *; omega)) _) | (with_reducible exact Below.refl _ _) | (with_reducible assumption) | (with_reducible refine Below.trans ?_ (Below.mono (by assumption) (by first | omega | (simp; done) | (simp; omega) | (simp at *; omega)))))))⟩
                  case measure => (simp [intOf]) <;> omega
            · rw [rngE_f hs, if_neg (by decide)] at hst
              have hr : Hid (E = 2) := Lib.hid (stop 2 hst (by omega))
              have H2 := Lib.hid hs
              clear hst stop on hz hpre hp hs cqc csc
              go_upto_region 10 with (fail)
              refine wp_region_held_drew (S := (fun w' => w'.cell? ⟨br, 1, none⟩ = some (.slice (some ⟨qb, qo, none⟩) l2 cq) ∧ w'.cell? ⟨bc, 0, none⟩ = some (.slice A n ca) ∧ w'.cell? ⟨qb, qo + k, none⟩ = some (.int .i64 p))) (by kernel_rfl) (by simp [go_sem, World.cell?_alloc_past, *]) (fun hHeld => ?_)
              refine tkH 0 ⟨some 34, _, _, _, _, _⟩ ?_ rfl ?_ (by assumption) ?_
              rotate_left
              · (intro w hSw; (try dsimp only at hSw); go_simp; all_goals with_reducible rfl)
              try simp only [Act.put, sA, sB, sC]
              refine tkH 1 ⟨some 35, _, _, _, _, _⟩ ?_ rfl ?_ (by assumption) ?_
              rotate_left
              · (intro w hSw; (try dsimp only at hSw); go_simp; all_goals with_reducible rfl)
              try simp only [Act.put, sA, sB, sC]
              refine tkH 2 ⟨some 36, _, _, _, _, _⟩ ?_ rfl ?_ (by assumption) ?_
              rotate_left
              · (intro w hSw; (try dsimp only at hSw); go_simp; all_goals with_reducible rfl)
              try simp only [Act.put, sA, sB, sC]
              refine tkH 3 ⟨some 37, _, _, _, _, _⟩ ?_ rfl ?_ (by assumption) ?_
              rotate_left
              · (intro w hSw; (try dsimp only at hSw); go_simp; all_goals with_reducible rfl)
              try simp only [Act.put, sA, sB, sC]
              refine tkH 4 ⟨some 38, _, _, _, _, _⟩ ?_ rfl ?_ (by assumption) ?_
              rotate_left
              · (intro w hSw; (try dsimp only at hSw); go_simp; all_goals with_reducible rfl)
              try simp only [Act.put, sA, sB, sC]
              refine tkH 5 ⟨some 39, _, _, _, _, _⟩ ?_ rfl ?_ (by assumption) ?_
              rotate_left
              · (intro w hSw; (try dsimp only at hSw); go_simp; all_goals with_reducible rfl)
              try simp only [Act.put, sA, sB, sC]
              refine tkH 6 ⟨some 40, _, _, _, _, _⟩ ?_ rfl ?_ (by assumption) ?_
              rotate_left
              · (intro w hSw; (try dsimp only at hSw); go_simp; all_goals with_reducible rfl)
              try simp only [Act.put, sA, sB, sC]
              refine tkH 7 ⟨some 41, _, _, _, _, _⟩ ?_ rfl ?_ (by assumption) ?_
              rotate_left
              · (intro w hSw; (try dsimp only at hSw); go_simp; all_goals with_reducible rfl)
              try simp only [Act.put, sA, sB, sC]
              refine tkH 8 ⟨some 42, _, _, _, _, _⟩ ?_ rfl ?_ (by assumption) ?_
              rotate_left
              · (intro w hSw; (try dsimp only at hSw); go_simp; all_goals with_reducible rfl)
              try simp only [Act.put, sA, sB, sC]
              refine wpAnyH_ready (rs := [9]) (by kernel_rfl) (by simp) ?_
              refine AllReadyH.cons rfl (fun K hK => ?_) AllReadyH.nil
              go_simp
              refine (bWth_is _ _ _ _ _ H1).mono ?_
              rintro e w' ⟨rfl, rfl⟩
              go_wp2_with fail
              refine hK.out _ _ (by simp [go_sem, World.cell?_alloc_past, *]) (fun hHeld => ?_)
              clear hK K
              try simp only [Act.put, sA, sB, sC]
              refine tkH 10 ⟨some 44, _, _, _, _, _⟩ ?_ rfl ?_ (by assumption) ?_
              rotate_left
              · (intro w hSw; (try dsimp only at hSw); go_simp; all_goals with_reducible rfl)
              try simp only [Act.put, sA, sB, sC]
              refine wpAnyH_done (by kernel_rfl) ?_ _
              go_wp2_with ((go_at_call 23; ((with_reducible refine (bWth_is _ _ _ _ _ H2).mono ?_)); rintro e w' ⟨rfl, rfl⟩))
              go_ret
              exact ⟨ret_int hr.out.symm, HBE2.out _ (by (repeat (first | (with_reducible refine Below.drew ?_) | (with_reducible refine below_drewN ?_ _) | (with_reducible refine Below.alloc ?_ (by first | omega | (simp; done) | (simp; omega) | (simp at *; omega)) _) | (with_reducible refine Below.setCell ?_ (by first | omega | (simp; done) | (simp; omega) | (simp at *; omega)) _) | (with_reducible exact Below.refl _ _) | (with_reducible assumption) | (with_reducible refine Below.trans ?_ (Below.mono (by assumption) (by first | omega | (simp; done) | (simp; omega) | (simp at *; omega)))))))⟩
          · have hp0 : plcE n pv = 6 := by unfold plcE; rw [if_neg (by rw [hp]; exact Bool.false_ne_true)]
            rw [hp0, firE_6 (by decide), if_neg (by decide)] at hst
            have hr : Hid (E = 6) := Lib.hid (stop 6 hst (by omega))
            have H1 := Lib.hid hp
            clear hst stop on hz hpre hp hp0 cqc csc
            go_upto_region 10 with (fail)
            refine wp_region_held_drew (S := (fun w' => w'.cell? ⟨br, 1, none⟩ = some (.slice (some ⟨qb, qo, none⟩) l2 cq) ∧ w'.cell? ⟨bc, 0, none⟩ = some (.slice A n ca) ∧ w'.cell? ⟨qb, qo + k, none⟩ = some (.int .i64 pv))) (by kernel_rfl) (by simp [go_sem, World.cell?_alloc_past, *]) (fun hHeld => ?_)
            refine tkH 0 ⟨some 34, _, _, _, _, _⟩ ?_ rfl ?_ (by assumption) ?_
            rotate_left
            · (intro w hSw; (try dsimp only at hSw); go_simp; all_goals with_reducible rfl)
            try simp only [Act.put, sA, sB, sC]
            refine tkH 1 ⟨some 35, _, _, _, _, _⟩ ?_ rfl ?_ (by assumption) ?_
            rotate_left
            · (intro w hSw; (try dsimp only at hSw); go_simp; all_goals with_reducible rfl)
            try simp only [Act.put, sA, sB, sC]
            refine tkH 2 ⟨some 36, _, _, _, _, _⟩ ?_ rfl ?_ (by assumption) ?_
            rotate_left
            · (intro w hSw; (try dsimp only at hSw); go_simp; all_goals with_reducible rfl)
            try simp only [Act.put, sA, sB, sC]
            refine tkH 3 ⟨some 37, _, _, _, _, _⟩ ?_ rfl ?_ (by assumption) ?_
            rotate_left
            · (intro w hSw; (try dsimp only at hSw); go_simp; all_goals with_reducible rfl)
            try simp only [Act.put, sA, sB, sC]
            refine tkH 4 ⟨some 38, _, _, _, _, _⟩ ?_ rfl ?_ (by assumption) ?_
            rotate_left
            · (intro w hSw; (try dsimp only at hSw); go_simp; all_goals with_reducible rfl)
            try simp only [Act.put, sA, sB, sC]
            refine tkH 5 ⟨some 39, _, _, _, _, _⟩ ?_ rfl ?_ (by assumption) ?_
            rotate_left
            · (intro w hSw; (try dsimp only at hSw); go_simp; all_goals with_reducible rfl)
            try simp only [Act.put, sA, sB, sC]
            refine tkH 6 ⟨some 40, _, _, _, _, _⟩ ?_ rfl ?_ (by assumption) ?_
            rotate_left
            · (intro w hSw; (try dsimp only at hSw); go_simp; all_goals with_reducible rfl)
            try simp only [Act.put, sA, sB, sC]
            refine tkH 7 ⟨some 41, _, _, _, _, _⟩ ?_ rfl ?_ (by assumption) ?_
            rotate_left
            · (intro w hSw; (try dsimp only at hSw); go_simp; all_goals with_reducible rfl)
            try simp only [Act.put, sA, sB, sC]
            refine tkH 8 ⟨some 42, _, _, _, _, _⟩ ?_ rfl ?_ (by assumption) ?_
            rotate_left
            · (intro w hSw; (try dsimp only at hSw); go_simp; all_goals with_reducible rfl)
            try simp only [Act.put, sA, sB, sC]
            refine wpAnyH_ready (rs := [9]) (by kernel_rfl) (by simp) ?_
            refine AllReadyH.cons rfl (fun K hK => ?_) AllReadyH.nil
            go_simp
            refine (bWth_is _ _ _ _ _ H1).mono ?_
            rintro e w' ⟨rfl, rfl⟩
            go_wp2_with fail
            refine hK.out _ _ (by simp [go_sem, World.cell?_alloc_past, *]) (fun hHeld => ?_)
            clear hK K
            try simp only [Act.put, sA, sB, sC]
            refine tkH 10 ⟨some 44, _, _, _, _, _⟩ ?_ rfl ?_ (by assumption) ?_
            rotate_left
            · (intro w hSw; (try dsimp only at hSw); go_simp; all_goals with_reducible rfl)
            try simp only [Act.put, sA, sB, sC]
            refine wpAnyH_done (by kernel_rfl) ?_ _
            go_wp2
            go_ret
            exact ⟨ret_int hr.out.symm, HBE2.out _ (by (repeat (first | (with_reducible refine Below.drew ?_) | (with_reducible refine below_drewN ?_ _) | (with_reducible refine Below.alloc ?_ (by first | omega | (simp; done) | (simp; omega) | (simp at *; omega)) _) | (with_reducible refine Below.setCell ?_ (by first | omega | (simp; done) | (simp; omega) | (simp at *; omega)) _) | (with_reducible exact Below.refl _ _) | (with_reducible assumption) | (with_reducible refine Below.trans ?_ (Below.mono (by assumption) (by first | omega | (simp; done) | (simp; omega) | (simp at *; omega)))))))⟩
        · have hkk : k = l2 := by omega
          have hrE : Hid (0 = E) := Lib.hid (by have h9 := hz.out; rw [hkk] at h9; rw [← HE.out]; exact h9.symm)
          clear hz hkk
          go_wp2
          go_ret
          exact ⟨ret_int hrE.out, HBE2.out _ hB⟩
    · rw [rngE_f hbg, if_neg (by decide)] at he
      have HE := Lib.hid he
      have H0 := Lib.hid hbg
      clear he hbg
      go_enter Tryz.func52, Tryz.ntmps52
      go_wp2_with ((go_at_call 39; ((with_reducible refine (isMin_is _ _ _ H0).mono ?_)); rintro e w' ⟨rfl, rfl⟩))
      go_ret
      exact ⟨ret_int HE.out, (by (repeat (first | (with_reducible refine Below.drew ?_) | (with_reducible refine below_drewN ?_ _) | (with_reducible refine Below.alloc ?_ (by first | omega | (simp; done) | (simp; omega) | (simp at *; omega)) _) | (with_reducible refine Below.setCell ?_ (by first | omega | (simp; done) | (simp; omega) | (simp at *; omega)) _) | (with_reducible exact Below.refl _ _) | (with_reducible assumption) | (with_reducible refine Below.trans ?_ (Below.mono (by assumption) (by first | omega | (simp; done) | (simp; omega) | (simp at *; omega)))))))⟩
  · rw [if_pos (Or.inr h2)] at he
    have HE := Lib.hid he
    have e1 : ¬ (l : Int) = (l2 : Int) := by omega
    have e2 : ((l : Int) == (l2 : Int)) = false := by simpa using e1
    clear he
    go_enter Tryz.func52, Tryz.ntmps52
    go_wp2
    go_ret
    exact ⟨ret_int HE.out, (by (repeat (first | (with_reducible refine Below.drew ?_) | (with_reducible refine below_drewN ?_ _) | (with_reducible refine Below.alloc ?_ (by first | omega | (simp; done) | (simp; omega) | (simp at *; omega)) _) | (with_reducible refine Below.setCell ?_ (by first | omega | (simp; done) | (simp; omega) | (simp at *; omega)) _) | (with_reducible exact Below.refl _ _) | (with_reducible assumption) | (with_reducible refine Below.trans ?_ (Below.mono (by assumption) (by first | omega | (simp; done) | (simp; omega) | (simp at *; omega)))))))⟩
end Go.Proofs.YtojaompfffpofaaGreat
