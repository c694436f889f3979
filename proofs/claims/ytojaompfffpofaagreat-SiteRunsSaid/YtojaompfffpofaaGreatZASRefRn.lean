import Derived.Test.YtojaompfffpofaaGreatZASFit9
import Derived.Test.YtojaompfffpofaaGreatZASRefCh
import Derived.Outline
namespace Go.Proofs.YtojaompfffpofaaGreat
open Go.ChangeShapes Go.WideShapes Go.ChangeAt Go.RowKit
set_option linter.unusedVariables false
set_option linter.unusedSimpArgs false
attribute [local go_sem ↓] Go.wp_at_zero Go.wp_at_succ
/-- When a stop's way begins. -/
def nowF (M : List (List Int)) (bg : Int) (Q Z : List Int) : Nat → Int
  | 0 => bg
  | k + 1 => leav M bg Q Z k
set_option maxRecDepth 100000 in
set_option maxHeartbeats 4000000 in
theorem refTimes_is (A B Aq As : Option Addr) (n ca cb l cq cs : Nat) (Pl : List ByteArray) (M : List (List Int)) (bg : Int) (Q Z : List Int) (w : World) (hl : n ≤ 12) (HR : Hid (RnSl w A B Aq As n l Pl M bg Q Z)) :
    Calls Tryz.prog 53 #[.agg #[.slice A n ca, .slice B n cb], .agg #[.int .i64 bg, .slice Aq l cq, .slice As l cs]] w (TmsP (tmsL M bg Q Z l) l w) := by
  have hl12 : l ≤ 12 := by have := HR.out.ok.l12; have := HR.out.hl; omega
  have hl0 : 0 < l := by have := HR.out.ok.l0; have := HR.out.hl; omega
  obtain ⟨i0, hi, hz0, hz1, hz2⟩ := info_partsS infoPr
  have HI := Lib.hid hi
  have HZ0 := Lib.hid hz0
  have HZ1 := Lib.hid hz1
  have HZ2 := Lib.hid hz2
  clear hi hz0 hz1 hz2
  have HAB : Hid (∀ k, k < l → 0 ≤ arrv M bg Q Z k ∧ arrv M bg Q Z k ≤ 1000000 + 20000 * (k : Int)) := Lib.hid fun k hk => arrv_B HR.out.ch.ok HR.out.ch.hn HR.out.ok k (by rw [← HR.out.hl]; exact hk)
  go_enter Tryz.func53, Tryz.ntmps53
  go_upto_region 1 with (fail)
  refine wp_world (RnU w A B Aq As n ca cb l cq cs bg w.heap.size (w.heap.size + 1)) (RnU.boxes w A B Aq As n ca cb l cq cs bg) (fun u hu => ?_)
  have HU := Lib.hid hu
  obtain ⟨c0, c1, r0, r1, r2, lc, lr, be⟩ := hu
  have HRU := Lib.hid (HR.out.below be)
  have HBE := Lib.hid be
  clear be HR
  generalize w.heap.size + 1 = br at *
  have HBE2 : Hid (∀ x, Below u.heap.size u x → BelS w x) := Lib.hid fun x hx => HBE.out.trans (hx.mono HBE.out.size)
  generalize w.heap.size = bc at *
  have HLT := Lib.hid lr
  go_wp2
  go_loopw [5, 6, 7] (fun t a i wr => ∃ (k : Nat) (G : Option Addr) (cg : Nat) (av : Int), i = .int .i64 k ∧ k ≤ l ∧ t = .slice G k cg ∧ a = .int .i64 av ∧ Hid (av = nowF M bg Q Z k) ∧ Hid (wr.ownsRow u.heap.size 79 2 (.slice G k cg) k (rowsV prV (tmsL M bg Q Z k))) ∧ Below u.heap.size u wr) (fun _ _ i _ => l - (intOf i).toNat)
  case atStart => exact ⟨0, none, 0, bg, rfl, by omega, rfl, rfl, Lib.hid rfl, Lib.hid ⟨rfl, .inl ⟨rfl, rfl⟩⟩, Below.refl _ _⟩
  case round =>
    clear c0 c1 r0 r1 r2
    obtain ⟨k, G, cg, av, rfl, hk, rfl, rfl, hav, HO, hB⟩ := hrel
    have hsz := hB.size
    obtain ⟨c0, c1, r0, r1, r2, _, _, _⟩ := HU.out.step hB
    have lcw : bc < wr.heap.size := by omega
    have lrw : br < wr.heap.size := by omega
    by_cases hkl : k < l
    · have kl : (k : Int) < (l : Int) := by omega
      have hsb0 : ∀ sb so, As = some ⟨sb, so, none⟩ → sb < u.heap.size := fun sb so e => by
        rcases HRU.out.z with h | ⟨b, o, h1, h2, _⟩
        · have := HRU.out.ok.ls; rw [h] at this; have := HRU.out.ok.l0; simp at *; omega
        · rw [h1] at e; cases e; exact h2
      obtain ⟨mb, mo, qb, qo, sb, so, rb, ro, cr, p, p', m, sv, rfl, rfl, rfl, lm, lq, ls, lr2, hp, hp', s0, s1, m0, m1, d0, d1, d2, d3, d4, hm, hsv, har⟩ := (HRU.out.below hB).at hkl
      replace hsb0 := hsb0 sb so rfl
      have pn : (p : Int) < (n : Int) := by omega
      have pn' : (p' : Int) < (n : Int) := by omega
      have hbk := HAB.out k hkl
      by_cases hk0 : k = 0
      · subst hk0
        obtain rfl : av = bg := hav.out
        have HA : Hid (arrv M av Q Z 0 = av) := Lib.hid rfl
        have HL : Hid (leav M av Q Z 0 = av + sv) := Lib.hid (by unfold leav; rw [HA.out, hsv])
        rw [HA.out] at hbk
        obtain ⟨hb0, hb1⟩ := hbk
        have w4 : IntKind.i64.wrap (av + sv) = av + sv := IntWalk.i64_in _ (by omega)
        have l0i : (0 : Int) < (l : Int) := by omega
        rw [Nat.add_zero] at d1
        clear d2 d3 d4 hm hsv har hav d0
        go_wp2_with (at_builtin; refine wpList_append_own_at _ rfl _ _ 95 rfl u.heap.size 79 i0 (.agg #[.int .i64 0, .int .i64 0]) 2 16 Tryz.underlying95 HI.out HZ0.out HZ1.out HZ2.out rfl (by decide) _ _ _ rfl (own_below (N := wr.heap.size) HO.out (by exact (by (repeat (first | (with_reducible refine Below.drew ?_) | (with_reducible refine below_drewN ?_ _) | (with_reducible refine Below.alloc ?_ (by first | omega | (simp; done) | (simp; omega) | (simp at *; omega)) _) | (with_reducible refine Below.setCell ?_ (by first | omega | (simp; done) | (simp; omega) | (simp at *; omega)) _) | (with_reducible exact Below.refl _ _) | (with_reducible assumption) | (with_reducible refine Below.trans ?_ (Below.mono (by assumption) (by first | omega | (simp; done) | (simp; omega) | (simp at *; omega)))))))) (Nat.le_refl _)) ⟨wr.heap.size, 0, none⟩ 1 1 [.int .i64 (av), .int .i64 (av + sv)] rfl rfl ?b0 ?b1 ?b2 ?b3 ?b4 ?_)
        case b0 =>
          intro j v hj
          match j, hj with
          | 0, hj => simp at hj; subst hj; simp [Addr.add, go_sem]
          | 1, hj => simp at hj; subst hj; simp [Addr.add, go_sem]
        case b1 => first | exact ⟨rfl, rfl⟩ | (intro v hv; simp at hv; rcases hv with rfl | rfl <;> rfl)
        case b2 => unfold maxLen; omega
        case b3 => omega
        case b4 => first | omega | (simp; omega)
        intro v' x5 hown hgrow hnn hblk
        have hB5 : Below u.heap.size u x5 := Below.grown (by exact (by (repeat (first | (with_reducible refine Below.drew ?_) | (with_reducible refine below_drewN ?_ _) | (with_reducible refine Below.alloc ?_ (by first | omega | (simp; done) | (simp; omega) | (simp at *; omega)) _) | (with_reducible refine Below.setCell ?_ (by first | omega | (simp; done) | (simp; omega) | (simp at *; omega)) _) | (with_reducible exact Below.refl _ _) | (with_reducible assumption) | (with_reducible refine Below.trans ?_ (Below.mono (by assumption) (by first | omega | (simp; done) | (simp; omega) | (simp at *; omega)))))))) hgrow (by simp; omega) (fun r hr => (own_block HO.out r hr).1)
        have hown2 : x5.ownsRow u.heap.size 79 2 v' (tmsL M av Q Z (0 + 1)).length (rowsV prV (tmsL M av Q Z (0 + 1))) := by rw [tmsL_succ, rowsV_app, List.length_append, tmsL_len]; rw [HA.out, HL.out]; exact hown
        obtain ⟨g5, cap5, hv5, hg5, hl5, hr5⟩ := own_rows (f := prV) (n := 2) (fun _ => rfl) hown2 (by rw [tmsL_succ]; simp)
        rw [tmsL_len] at hv5 hown2
        subst hv5
        have HO5 := Lib.hid hown2
        have hzf : sb < x5.heap.size ∧ br < x5.heap.size := by have h9 := hgrow.size; simp at h9; omega
        have dz : x5.cell? ⟨sb, so, none⟩ = some (.int .i64 sv) := (World.cell?_of_block (a := ⟨sb, so, none⟩) (hgrow.block sb (by simp; omega) (fun hh => by have := (own_block HO.out sb hh.symm).1; have := hsb0; omega))).trans (by simp [go_sem, World.cell?_alloc_past, *])
        have dr : x5.cell? ⟨br, 2, none⟩ = some (.slice (some ⟨sb, so, none⟩) l cs) := (World.cell?_of_block (a := ⟨br, 2, none⟩) (hgrow.block br (by simp; omega) (fun hh => by have := (own_block HO.out br hh.symm).1; have := HLT.out; omega))).trans (by simp [go_sem, World.cell?_alloc_past, *])
        clear hown hown2 hgrow hnn hblk hg5 hl5 hr5
        go_wp2
        go_roundw
        case rel => exact ⟨0 + 1, some ⟨g5, 0, none⟩, cap5, _, by first | rfl | go_num, by omega, rfl, rfl, Lib.hid HL.out.symm, HO5, hB5⟩
        case measure => (simp [intOf]) <;> omega
      · have hk1 : 0 < k := by omega
        have hav2 : av = leav M bg Q Z (k - 1) := by rw [hav.out]; obtain ⟨j, rfl⟩ : ∃ j, k = j + 1 := ⟨k - 1, by omega⟩; rfl
        have hark := har hk1
        rw [← hav2] at hark
        have HA : Hid (arrv M bg Q Z k = av + m) := Lib.hid hark
        have HL : Hid (leav M bg Q Z k = av + m + sv) := Lib.hid (by unfold leav; rw [HA.out, hsv])
        rw [hark] at hbk
        obtain ⟨hb0, hb1⟩ := hbk
        have w3 : IntKind.i64.wrap (av + m) = av + m := IntWalk.i64_in _ (by omega)
        have w4 : IntKind.i64.wrap (av + m + sv) = av + m + sv := IntWalk.i64_in _ (by omega)
        have w2 : IntKind.i64.wrap ((k : Int) - 1) = (k : Int) - 1 := IntWalk.i64_in _ (by omega)
        have j2 : (0 : Int) ≤ (k : Int) - 1 := by omega
        have j2' : (1 : Int) ≤ (k : Int) := by omega
        have j3 : ((k : Int) - 1).toNat = k - 1 := by omega
        have j5 : (k : Int) - 1 < (l : Int) := by omega
        have kp : (0 : Int) < (k : Int) := by omega
        clear hav hm hsv har hark hav2
        go_upto_region 7 with (fail)
        refine wp_region_held_drew (S := (fun w' => w'.cell? ⟨bc, 1, none⟩ = some (.slice (some ⟨mb, mo, none⟩) n cb) ∧ w'.cell? ⟨br, 1, none⟩ = some (.slice (some ⟨qb, qo, none⟩) l cq) ∧ w'.cell? ⟨qb, qo + (k - 1), none⟩ = some (.int .i64 p') ∧ w'.cell? ⟨mb, mo + p', none⟩ = some (.slice (some ⟨rb, ro, none⟩) n cr) ∧ w'.cell? ⟨qb, qo + k, none⟩ = some (.int .i64 p) ∧ w'.cell? ⟨rb, ro + p, none⟩ = some (.int .i64 m))) (by kernel_rfl) (by simp [go_sem, World.cell?_alloc_past, *]) (fun hHeld => ?_)
        refine tkH 0 ⟨some 19, _, _, _, _, _⟩ ?_ rfl ?_ (by assumption) ?_
        rotate_left
        · (intro w hSw; (try dsimp only at hSw); go_simp; all_goals with_reducible rfl)
        try simp only [Act.put, sA, sB, sC]
        refine tkH 1 ⟨some 20, _, _, _, _, _⟩ ?_ rfl ?_ (by assumption) ?_
        rotate_left
        · (intro w hSw; (try dsimp only at hSw); go_simp; all_goals with_reducible rfl)
        try simp only [Act.put, sA, sB, sC]
        refine tkH 2 ⟨some 21, _, _, _, _, _⟩ ?_ rfl ?_ (by assumption) ?_
        rotate_left
        · (intro w hSw; (try dsimp only at hSw); go_simp; all_goals with_reducible rfl)
        try simp only [Act.put, sA, sB, sC]
        refine tkH 3 ⟨some 22, _, _, _, _, _⟩ ?_ rfl ?_ (by assumption) ?_
        rotate_left
        · (intro w hSw; (try dsimp only at hSw); go_simp; all_goals with_reducible rfl)
        try simp only [Act.put, sA, sB, sC]
        refine tkH 4 ⟨some 23, _, _, _, _, _⟩ ?_ rfl ?_ (by assumption) ?_
        rotate_left
        · (intro w hSw; (try dsimp only at hSw); go_simp; all_goals with_reducible rfl)
        try simp only [Act.put, sA, sB, sC]
        refine tkH 5 ⟨some 24, _, _, _, _, _⟩ ?_ rfl ?_ (by assumption) ?_
        rotate_left
        · (intro w hSw; (try dsimp only at hSw); go_simp; all_goals with_reducible rfl)
        try simp only [Act.put, sA, sB, sC]
        refine tkH 6 ⟨some 25, _, _, _, _, _⟩ ?_ rfl ?_ (by assumption) ?_
        rotate_left
        · (intro w hSw; (try dsimp only at hSw); go_simp; all_goals with_reducible rfl)
        try simp only [Act.put, sA, sB, sC]
        refine tkH 7 ⟨some 26, _, _, _, _, _⟩ ?_ rfl ?_ (by assumption) ?_
        rotate_left
        · (intro w hSw; (try dsimp only at hSw); go_simp; all_goals with_reducible rfl)
        try simp only [Act.put, sA, sB, sC]
        refine tkH 8 ⟨some 27, _, _, _, _, _⟩ ?_ rfl ?_ (by assumption) ?_
        rotate_left
        · (intro w hSw; (try dsimp only at hSw); go_simp; all_goals with_reducible rfl)
        try simp only [Act.put, sA, sB, sC]
        refine tkH 9 ⟨some 28, _, _, _, _, _⟩ ?_ rfl ?_ (by assumption) ?_
        rotate_left
        · (intro w hSw; (try dsimp only at hSw); go_simp; all_goals with_reducible rfl)
        try simp only [Act.put, sA, sB, sC]
        refine tkH 10 ⟨some 29, _, _, _, _, _⟩ ?_ rfl ?_ (by assumption) ?_
        rotate_left
        · (intro w hSw; (try dsimp only at hSw); go_simp; all_goals with_reducible rfl)
        try simp only [Act.put, sA, sB, sC]
        refine tkH 11 ⟨some 30, _, _, _, _, _⟩ ?_ rfl ?_ (by assumption) ?_
        rotate_left
        · (intro w hSw; (try dsimp only at hSw); go_simp; all_goals with_reducible rfl)
        try simp only [Act.put, sA, sB, sC]
        refine tkH 12 ⟨some 31, _, _, _, _, _⟩ ?_ rfl ?_ (by assumption) ?_
        rotate_left
        · (intro w hSw; (try dsimp only at hSw); go_simp; all_goals with_reducible rfl)
        try simp only [Act.put, sA, sB, sC]
        refine tkH 13 ⟨some 32, _, _, _, _, _⟩ ?_ rfl ?_ (by assumption) ?_
        rotate_left
        · (intro w hSw; (try dsimp only at hSw); go_simp; all_goals with_reducible rfl)
        try simp only [Act.put, sA, sB, sC]
        refine tkH 14 ⟨some 33, _, _, _, _, _⟩ ?_ rfl ?_ (by assumption) ?_
        rotate_left
        · (intro w hSw; (try dsimp only at hSw); go_simp; all_goals with_reducible rfl)
        try simp only [Act.put, sA, sB, sC]
        refine tkH 15 ⟨some 34, _, _, _, _, _⟩ ?_ rfl ?_ (by assumption) ?_
        rotate_left
        · (intro w hSw; (try dsimp only at hSw); go_simp; all_goals with_reducible rfl)
        try simp only [Act.put, sA, sB, sC]
        refine tkH 16 ⟨some 35, _, _, _, _, _⟩ ?_ rfl ?_ (by assumption) ?_
        rotate_left
        · (intro w hSw; (try dsimp only at hSw); go_simp; all_goals with_reducible rfl)
        try simp only [Act.put, sA, sB, sC]
        refine tkH 17 ⟨some 36, _, _, _, _, _⟩ ?_ rfl ?_ (by assumption) ?_
        rotate_left
        · (intro w hSw; (try dsimp only at hSw); go_simp; all_goals with_reducible rfl)
        try simp only [Act.put, sA, sB, sC]
        refine tkH 18 ⟨some 37, _, _, _, _, _⟩ ?_ rfl ?_ (by assumption) ?_
        rotate_left
        · (intro w hSw; (try dsimp only at hSw); go_simp; all_goals with_reducible rfl)
        try simp only [Act.put, sA, sB, sC]
        refine tkH 19 ⟨some 6, _, _, _, _, _⟩ ?_ rfl ?_ (by assumption) ?_
        rotate_left
        · (intro w hSw; (try dsimp only at hSw); go_simp; all_goals with_reducible rfl)
        try simp only [Act.put, sA, sB, sC]
        refine wpAnyH_done (by kernel_rfl) ?_ _
        go_wp2_with (at_builtin; refine wpList_append_own_at _ rfl _ _ 95 rfl u.heap.size 79 i0 (.agg #[.int .i64 0, .int .i64 0]) 2 16 Tryz.underlying95 HI.out HZ0.out HZ1.out HZ2.out rfl (by decide) _ _ _ rfl (own_below (N := wr.heap.size) HO.out (by exact (by (repeat (first | (with_reducible refine Below.drew ?_) | (with_reducible refine below_drewN ?_ _) | (with_reducible refine Below.alloc ?_ (by first | omega | (simp; done) | (simp; omega) | (simp at *; omega)) _) | (with_reducible refine Below.setCell ?_ (by first | omega | (simp; done) | (simp; omega) | (simp at *; omega)) _) | (with_reducible exact Below.refl _ _) | (with_reducible assumption) | (with_reducible refine Below.trans ?_ (Below.mono (by assumption) (by first | omega | (simp; done) | (simp; omega) | (simp at *; omega)))))))) (Nat.le_refl _)) ⟨wr.heap.size, 0, none⟩ 1 1 [.int .i64 (av + m), .int .i64 (av + m + sv)] rfl rfl ?b0 ?b1 ?b2 ?b3 ?b4 ?_)
        case b0 =>
          intro j v hj
          match j, hj with
          | 0, hj => simp at hj; subst hj; simp [Addr.add, go_sem]
          | 1, hj => simp at hj; subst hj; simp [Addr.add, go_sem]
        case b1 => first | exact ⟨rfl, rfl⟩ | (intro v hv; simp at hv; rcases hv with rfl | rfl <;> rfl)
        case b2 => unfold maxLen; omega
        case b3 => omega
        case b4 => first | omega | (simp; omega)
        intro v' x5 hown hgrow hnn hblk
        have hB5 : Below u.heap.size u x5 := Below.grown (by exact (by (repeat (first | (with_reducible refine Below.drew ?_) | (with_reducible refine below_drewN ?_ _) | (with_reducible refine Below.alloc ?_ (by first | omega | (simp; done) | (simp; omega) | (simp at *; omega)) _) | (with_reducible refine Below.setCell ?_ (by first | omega | (simp; done) | (simp; omega) | (simp at *; omega)) _) | (with_reducible exact Below.refl _ _) | (with_reducible assumption) | (with_reducible refine Below.trans ?_ (Below.mono (by assumption) (by first | omega | (simp; done) | (simp; omega) | (simp at *; omega)))))))) hgrow (by simp; omega) (fun r hr => (own_block HO.out r hr).1)
        have hown2 : x5.ownsRow u.heap.size 79 2 v' (tmsL M bg Q Z (k + 1)).length (rowsV prV (tmsL M bg Q Z (k + 1))) := by rw [tmsL_succ, rowsV_app, List.length_append, tmsL_len]; rw [HA.out, HL.out]; exact hown
        obtain ⟨g5, cap5, hv5, hg5, hl5, hr5⟩ := own_rows (f := prV) (n := 2) (fun _ => rfl) hown2 (by rw [tmsL_succ]; simp)
        rw [tmsL_len] at hv5 hown2
        subst hv5
        have HO5 := Lib.hid hown2
        have hzf : sb < x5.heap.size ∧ br < x5.heap.size := by have h9 := hgrow.size; simp at h9; omega
        have dz : x5.cell? ⟨sb, so + k, none⟩ = some (.int .i64 sv) := (World.cell?_of_block (a := ⟨sb, so + k, none⟩) (hgrow.block sb (by simp; omega) (fun hh => by have := (own_block HO.out sb hh.symm).1; have := hsb0; omega))).trans (by simp [go_sem, World.cell?_alloc_past, *])
        have dr : x5.cell? ⟨br, 2, none⟩ = some (.slice (some ⟨sb, so, none⟩) l cs) := (World.cell?_of_block (a := ⟨br, 2, none⟩) (hgrow.block br (by simp; omega) (fun hh => by have := (own_block HO.out br hh.symm).1; have := HLT.out; omega))).trans (by simp [go_sem, World.cell?_alloc_past, *])
        clear hown hown2 hgrow hnn hblk hg5 hl5 hr5
        go_wp2
        go_roundw
        case rel => exact ⟨k + 1, some ⟨g5, 0, none⟩, cap5, _, by first | rfl | go_num, by omega, rfl, rfl, Lib.hid HL.out.symm, HO5, hB5⟩
        case measure => (simp [intOf]) <;> omega
    · have hkk : k = l := by omega
      subst hkk
      have howns : wr.ownsRow u.heap.size 79 2 (.slice G k cg) (tmsL M bg Q Z k).length (rowsV prV (tmsL M bg Q Z k)) := by rw [tmsL_len]; exact HO.out
      obtain ⟨g, cg', hvv, hgb, hgl, hgr⟩ := own_rows (f := prV) (n := 2) (fun _ => rfl) howns (by intro h; have := congrArg List.length h; rw [tmsL_len] at this; simp at this; omega)
      rw [tmsL_len] at hvv
      injection hvv with v1 v2 v3
      subst v1 v3
      have HGR := Lib.hid hgr
      clear howns hgr hav v2
      go_wp2
      go_ret
      exact ⟨g, cg, rfl, hgl, HGR.out, HBE2.out _ hB⟩
end Go.Proofs.YtojaompfffpofaaGreat
