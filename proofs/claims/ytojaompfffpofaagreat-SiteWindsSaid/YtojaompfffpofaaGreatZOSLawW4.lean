import Derived.Test.YtojaompfffpofaaGreatZOSLawW0
import Derived.Outline
namespace Go.Proofs.YtojaompfffpofaaGreat
open Go.ChangeShapes Go.WideShapes Go.ChangeAt Go.RowKit
set_option linter.unusedVariables false
set_option linter.unusedSimpArgs false
attribute [local go_sem ↓] Go.wp_at_zero Go.wp_at_succ
set_option maxRecDepth 100000 in
set_option maxHeartbeats 8000000 in
theorem wnd_6 (s0 s1 s2 s3 s4 s5 s6 s7 m a b : Int) (M : List Int) (L : List Wi) (A : Option Addr) (n cap : Nat) (w : World) (hM : Hid (M = [s0, s1, s2, s3, s4, s5, s6, s7])) (hn : Hid (n = L.length)) (HR : Hid (∀ w' : World, Below w.heap.size w w' → SlRows wiV 3 w' A L)) (CA : Hid (A = none → n = 0 ∧ cap = 0)) (hl : n ≤ 12) (hD : Hid (wndE L = 0)) (S : Int) (hS : Hid (shE M = S)) (hzS : (S != 0) = true) (P : Int) (hP : Hid (spnE a b = P)) (hBr : Hid (((P : Int) != 0 || decide (b - a < 200)) = true)) (hM0 : Hid (inB m 0 1000000 = true)) (ht : begU L m n = 0) :
    Calls Tryz.prog 6 #[.slice A n cap, .agg #[.int .i64 s0, .int .i64 s1, .int .i64 s2, .int .i64 s3, .int .i64 s4, .int .i64 s5, .int .i64 s6, .int .i64 s7, .int .i64 m, .int .i64 a, .int .i64 b]] w fun e w' => e = .returned (.bool true) ∧ Below w.heap.size w w' := by
  obtain ⟨i0, hi, hz0', hz1', hz2'⟩ := info_partsS infoWi
  have HI := Lib.hid hi
  have HZ0 := Lib.hid hz0'
  have HZ1 := Lib.hid hz1'
  have HZ2 := Lib.hid hz2'
  have HLLA := Lib.hid (rowsV_len (f := wiV) (n := 3) (fun _ => rfl) L)
  rw [← hn.out] at HLLA
  clear hi hz0' hz1' hz2'
  have i12 : ¬ (12 : Int) < (n : Int) := by omega
  have i62 : ¬ (62 : Int) < (n : Int) := by omega
  have iS : ¬ S = 0 := by simpa using hzS
  have jS : (S == 0) = false := by simpa [bne] using hzS
  have hG : Hid (rngE m 0 1000000 = 0) := Lib.hid (rngE_t hM0.out)
  obtain ⟨n0', _, _, hs'⟩ := wndE_ok hD.out
  have hs := Lib.hid hs'
  have n0 : 0 < n := by rw [hn.out]; exact n0'
  clear n0' hs'
  have hx : Hid (atW L m n = ⟨0, 0, 0⟩) := Lib.hid (by unfold atW; rw [if_pos ht])
  have hE9 : Hid (atE L m n = 19) := Lib.hid (by unfold atE; rw [if_pos ht])
  have hp9 : Hid (decide (begU L m n ≠ 0) = false) := Lib.hid (by rw [ht]; rfl)
  clear ht
  have hCE : Hid (calE M L a b = S) := Lib.hid (by unfold calE firE; rw [hS.out, if_neg iS])
  go_enter Tryz.func6, Tryz.ntmps6
  go_upto_region 1 with (fail)
  refine wp_world (LwS s0 s1 s2 s3 s4 s5 s6 s7 m a b w) ⟨by simp [go_sem, World.cell?_alloc_past], by simp [go_sem, World.cell?_alloc_past], by simp [go_sem, World.cell?_alloc_past], by simp [go_sem, World.cell?_alloc_past], by simp [go_sem, World.cell?_alloc_past], by simp [go_sem, World.cell?_alloc_past], by simp [go_sem, World.cell?_alloc_past], by simp [go_sem, World.cell?_alloc_past], by simp [go_sem, World.cell?_alloc_past], by simp [go_sem, World.cell?_alloc_past], by simp [go_sem, World.cell?_alloc_past], (by (repeat (first | (with_reducible refine Below.drew ?_) | (with_reducible refine below_drewN ?_ _) | (with_reducible refine Below.alloc ?_ (by first | omega | (simp; done) | (simp; omega) | (simp at *; omega)) _) | (with_reducible refine Below.setCell ?_ (by first | omega | (simp; done) | (simp; omega) | (simp at *; omega)) _) | (with_reducible exact Below.refl _ _) | (with_reducible assumption) | (with_reducible refine Below.trans ?_ (Below.mono (by assumption) (by first | omega | (simp; done) | (simp; omega) | (simp at *; omega))))))), by simp⟩ (fun u hu => ?_)
  have HU := Lib.hid hu
  have HS : Hid (∀ x, Below u.heap.size u x → LwS s0 s1 s2 s3 s4 s5 s6 s7 m a b w x) := Lib.hid fun x hx => HU.out.below hx
  have HA : Hid (∀ x, Below u.heap.size u x → SlRows wiV 3 x A L) := Lib.hid fun x hx => HR.out _ (HU.out.below hx).be
  clear hu
  go_wp2_with fail
  refine (awake_any _).mono ?_
  rintro e x1 ⟨rfl, hb1⟩
  have zz1 := hb1.size
  try simp at zz1
  have hc1 : Below u.heap.size u x1 := (by (repeat (first | (with_reducible refine Below.drew ?_) | (with_reducible refine below_drewN ?_ _) | (with_reducible refine Below.alloc ?_ (by first | omega | (simp; done) | (simp; omega) | (simp at *; omega)) _) | (with_reducible refine Below.setCell ?_ (by first | omega | (simp; done) | (simp; omega) | (simp at *; omega)) _) | (with_reducible exact Below.refl _ _) | (with_reducible assumption) | (with_reducible refine Below.trans ?_ (Below.mono (by assumption) (by first | omega | (simp; done) | (simp; omega) | (simp at *; omega)))))))
  have hB1 : Below u.heap.size u x1 := hc1
  have zu1 := hB1.size
  clear hb1 
  obtain ⟨c0, c1, c2, c3, c4, c5, c6, c7, c8, c9, c10, hBe, hlt⟩ := HS.out _ hB1
  go_wp2_with fail
  refine (brief_is a b P true _ hP hBr).mono ?_
  rintro e x2 ⟨rfl, hb2⟩
  have zz2 := hb2.size
  try simp at zz2
  have hc2 : Below x1.heap.size x1 x2 := (by (repeat (first | (with_reducible refine Below.drew ?_) | (with_reducible refine below_drewN ?_ _) | (with_reducible refine Below.alloc ?_ (by first | omega | (simp; done) | (simp; omega) | (simp at *; omega)) _) | (with_reducible refine Below.setCell ?_ (by first | omega | (simp; done) | (simp; omega) | (simp at *; omega)) _) | (with_reducible exact Below.refl _ _) | (with_reducible assumption) | (with_reducible refine Below.trans ?_ (Below.mono (by assumption) (by first | omega | (simp; done) | (simp; omega) | (simp at *; omega)))))))
  have hB2 : Below u.heap.size u x2 := hB1.trans (hc2.mono hB1.size)
  have zu2 := hB2.size
  clear hb2 hB1 zz1 zu1 hc1 c0 c1 c2 c3 c4 c5 c6 c7 c8 c9 c10 hBe hlt
  obtain ⟨c0, c1, c2, c3, c4, c5, c6, c7, c8, c9, c10, hBe, hlt⟩ := HS.out _ hB2
  go_upto_region 5 with (fail)
  have HK5 : Hid (∀ y, Below x2.heap.size x2 y → y.cell? ⟨w.heap.size, 8, none⟩ = some (.int .i64 m)) := Lib.hid fun y hy => (HS.out _ (hB2.trans (hy.mono hB2.size))).c8
  have HA5 : Hid (∀ y, Below x2.heap.size x2 y → SlRows wiV 3 y A L) := Lib.hid fun y hy => HA.out _ (hB2.trans (hy.mono hB2.size))
  have hw5 : w.heap.size < x2.heap.size := hlt
  go_cut [5, 6] from 7 (fun s5 s6 wx => WtR 0 0 0 19 x2 s5 s6 wx)
  case first =>
    clear c0 c1 c2 c3 c4 c5 c6 c7 c8 c9 c10 hBe hlt HS HA HU
    refine wp_region_held_drew (S := (fun w' => w'.cell? ⟨w.heap.size, 8, none⟩ = some (.int .i64 m))) (by kernel_rfl) (by exact HK5.out _ (Below.refl _ _).drew) (fun hHeld => ?_)
    have hT0 : Below x2.heap.size x2 x2.drew := (Below.refl _ _).drew
    generalize hdr : x2.drew = v0 at *
    clear hdr
    refine tkH 1 ⟨some 37, _, _, _, _, _⟩ ?_ rfl ?_ (by assumption) ?_
    rotate_left
    · (intro w hSw; (try dsimp only at hSw); go_simp; all_goals with_reducible rfl)
    try simp only [Act.put, sA, sB, sC]
    refine tkH 3 ⟨some 39, _, _, _, _, _⟩ ?_ rfl ?_ (by assumption) ?_
    rotate_left
    · (intro w hSw; (try dsimp only at hSw); go_simp; all_goals with_reducible rfl)
    try simp only [Act.put, sA, sB, sC]
    refine tkH 4 ⟨some 40, _, _, _, _, _⟩ ?_ rfl ?_ (by assumption) ?_
    rotate_left
    · (intro w hSw; (try dsimp only at hSw); go_simp; all_goals with_reducible rfl)
    try simp only [Act.put, sA, sB, sC]
    refine wpAnyH_ready (rs := [0, 9]) (by kernel_rfl) (by simp) ?_
    refine AllReadyH.cons rfl (fun K hK => ?_) (AllReadyH.cons rfl (fun K hK => ?_) (AllReadyH.nil))
    · skip
      go_simp
      go_wp2_with fail
      refine hK.out _ _ (HK5.out _ (hT0.alloc hT0.size _)) (fun hHeld => ?_)
      clear hK K
      try simp only [Act.put, sA, sB, sC]
      obtain ⟨bz, ebz⟩ : ∃ x, v0.heap.size = x := ⟨_, rfl⟩
      generalize hq0 : v0.alloc (.cells #[] 63) = v1
      have hb0 : Below v0.heap.size v0 v1 := by rw [← hq0]; exact (Below.refl _ _).alloc (Nat.le_refl _) _
      have hT1 : Below x2.heap.size x2 v1 := hT0.trans (hb0.mono hT0.size)
      have HE1 : Hid (v1.ownsRow x2.heap.size 63 3 (.slice (some ⟨bz, 0, none⟩) 0 0) 0 []) := Lib.hid (own_emptyS (by rw [← ebz]; exact hT0.size) (by rw [← hq0, ← ebz]; exact allocF_at _ _))
      rw [ebz]
      clear hq0 hb0
      refine wpAnyH_ready (rs := [2, 9]) (by kernel_rfl) (by simp) ?_
      refine AllReadyH.cons rfl (fun K hK => ?_) (AllReadyH.cons rfl (fun K hK => ?_) (AllReadyH.nil))
      · skip
        rw [if_pos (by kernel_rfl)]
        have HX1 := Lib.hid (wi_src (HA5.out _ hT1))
        refine oper_append_sl _ _ 56 rfl x2.heap.size 63 i0 (.agg #[.int .i64 0, .int .i64 0, .int .i64 0]) 3 24 Tryz.underlying56 HI.out HZ0.out HZ1.out HZ2.out rfl (by decide) _ 0 [] rfl HE1.out A n cap (rowsV wiV L) rfl CA.out HLLA.out HX1.out (rows_one wiV_one L) ?d1 ?d2 hT1.size ?_
        case d1 => unfold maxLen; omega
        case d2 => omega
        intro r1 v2 hown hgrow hblk
        try simp only [Nat.zero_add, List.nil_append] at hown
        have hT2 : Below x2.heap.size x2 v2 := hT1.grown hgrow hT1.size (fun r hr => (own_block HE1.out r hr).1)
        obtain ⟨G1, cg1, hv1, hS1, _, _, _, _⟩ := SlRows_own (f := wiV) (n := 3) (L := L) (fun _ => rfl) (by rw [← hn.out]; exact hown)
        rw [← hn.out] at hv1
        subst hv1
        have HG2 := Lib.hid hS1
        clear hown hgrow hblk hS1
        refine hK.out _ _ (HK5.out _ hT2) (fun hHeld => ?_)
        clear hK K
        try simp only [Act.put, sA, sB, sC]
        refine wpAnyH_ready (rs := [5, 9]) (by kernel_rfl) (by simp) ?_
        refine AllReadyH.cons rfl (fun K hK => ?_) (AllReadyH.cons rfl (fun K hK => ?_) (AllReadyH.nil))
        · skip
          go_simp
          refine (WindAt_ok L G1 n cg1 m ⟨0, 0, 0⟩ 19 _ hn (by omega) HG2 hD hG hx hE9).mono ?_
          rintro e v3 ⟨rfl, hb2⟩
          have hT3 : Below x2.heap.size x2 v3 := hT2.trans (hb2.mono hT2.size)
          clear hb2
          go_wp2_with fail
          refine hK.out _ _ (HK5.out _ hT3) (fun hHeld => ?_)
          clear hK K
          try simp only [Act.put, sA, sB, sC]
          refine tkH 6 ⟨some 35, _, _, _, _, _⟩ ?_ rfl ?_ (by assumption) ?_
          rotate_left
          · (intro w hSw; (try dsimp only at hSw); go_simp; all_goals with_reducible rfl)
          try simp only [Act.put, sA, sB, sC]
          refine tkH 7 ⟨some 42, _, _, _, _, _⟩ ?_ rfl ?_ (by assumption) ?_
          rotate_left
          · (intro w hSw; (try dsimp only at hSw); go_simp; all_goals with_reducible rfl)
          try simp only [Act.put, sA, sB, sC]
          refine tkH 8 ⟨some 43, _, _, _, _, _⟩ ?_ rfl ?_ (by assumption) ?_
          rotate_left
          · (intro w hSw; (try dsimp only at hSw); go_simp; all_goals with_reducible rfl)
          try simp only [Act.put, sA, sB, sC]
          refine wpAnyH_ready (rs := [9]) (by kernel_rfl) (by simp) ?_
          refine AllReadyH.cons rfl (fun K hK => ?_) (AllReadyH.nil)
          go_simp
          go_wp2_with fail
          refine hK.out _ _ (HK5.out _ (hT3.alloc hT3.size _)) (fun hHeld => ?_)
          clear hK K
          try simp only [Act.put, sA, sB, sC]
          have NX4 := NwW.made x2.heap.size v3 hT3.size
          obtain ⟨bx, ebx⟩ : ∃ x, v3.heap.size = x := ⟨_, rfl⟩
          generalize hq3 : v3.alloc (.cells #[.int .i64 0, .int .i64 0, .int .i64 0] 63) = v4 at *
          have hb3 : Below v3.heap.size v3 v4 := by rw [← hq3]; exact (Below.refl _ _).alloc (Nat.le_refl _) _
          have hT4 : Below x2.heap.size x2 v4 := hT3.trans (hb3.mono hT3.size)
          rw [ebx] at NX4 ⊢
          have HN4 := Lib.hid NX4
          clear NX4 hq3 hb3
          refine wpAnyH_ready (rs := [10]) (by kernel_rfl) (by simp) ?_
          refine AllReadyH.cons rfl (fun K hK => ?_) (AllReadyH.nil)
          obtain ⟨q0, q1, q2, qf, ql, qg⟩ := HN4.out
          have k8 := HK5.out _ hT4
          have nw : w.heap.size ≠ bx := by omega
          have nw2 : bx ≠ w.heap.size := by omega
          go_simp
          go_wp2_with fail
          refine hK.out _ _ (by simp [go_sem, World.cell?_alloc_past, *]) (fun hHeld => ?_)
          clear hK K
          try simp only [Act.put, sA, sB, sC]
          refine tkH 11 ⟨some 6, _, _, _, _, _⟩ ?_ rfl ?_ (by assumption) ?_
          rotate_left
          · (intro w hSw; (try dsimp only at hSw); go_simp; all_goals with_reducible rfl)
          try simp only [Act.put, sA, sB, sC]
          refine wpAnyH_done (by kernel_rfl) ?_ _
          go_wp2_with fail
          go_meet
          exact ⟨bx, rfl, rfl, qg, by simp; omega, by simp [go_sem, *], by simp [go_sem, *], by simp [go_sem, *], (by (repeat (first | (with_reducible refine Below.drew ?_) | (with_reducible refine below_drewN ?_ _) | (with_reducible refine Below.alloc ?_ (by first | omega | (simp; done) | (simp; omega) | (simp at *; omega)) _) | (with_reducible refine Below.setCell ?_ (by first | omega | (simp; done) | (simp; omega) | (simp at *; omega)) _) | (with_reducible exact Below.refl _ _) | (with_reducible assumption) | (with_reducible refine Below.trans ?_ (Below.mono (by assumption) (by first | omega | (simp; done) | (simp; omega) | (simp at *; omega)))))))⟩
        · skip
          go_simp
          go_wp2_with fail
          refine hK.out _ _ (HK5.out _ (hT2.alloc hT2.size _)) (fun hHeld => ?_)
          clear hK K
          try simp only [Act.put, sA, sB, sC]
          have NX3 := NwW.made x2.heap.size v2 hT2.size
          obtain ⟨bx, ebx⟩ : ∃ x, v2.heap.size = x := ⟨_, rfl⟩
          generalize hq2 : v2.alloc (.cells #[.int .i64 0, .int .i64 0, .int .i64 0] 63) = v3 at *
          have hb2 : Below v2.heap.size v2 v3 := by rw [← hq2]; exact (Below.refl _ _).alloc (Nat.le_refl _) _
          have hT3 : Below x2.heap.size x2 v3 := hT2.trans (hb2.mono hT2.size)
          have HG3 := Lib.hid (HG2.out.below hb2)
          rw [ebx] at NX3 ⊢
          have HN3 := Lib.hid NX3
          clear NX3 hq2 hb2
          refine wpAnyH_ready (rs := [5]) (by kernel_rfl) (by simp) ?_
          refine AllReadyH.cons rfl (fun K hK => ?_) (AllReadyH.nil)
          go_simp
          refine (WindAt_ok L G1 n cg1 m ⟨0, 0, 0⟩ 19 _ hn (by omega) HG3 hD hG hx hE9).mono ?_
          rintro e v4 ⟨rfl, hb3⟩
          have hT4 : Below x2.heap.size x2 v4 := hT3.trans (hb3.mono hT3.size)
          have HN4 := Lib.hid (HN3.out.below hb3)
          clear hb3
          go_wp2_with fail
          refine hK.out _ _ (HK5.out _ hT4) (fun hHeld => ?_)
          clear hK K
          try simp only [Act.put, sA, sB, sC]
          refine tkH 6 ⟨some 35, _, _, _, _, _⟩ ?_ rfl ?_ (by assumption) ?_
          rotate_left
          · (intro w hSw; (try dsimp only at hSw); go_simp; all_goals with_reducible rfl)
          try simp only [Act.put, sA, sB, sC]
          refine tkH 7 ⟨some 42, _, _, _, _, _⟩ ?_ rfl ?_ (by assumption) ?_
          rotate_left
          · (intro w hSw; (try dsimp only at hSw); go_simp; all_goals with_reducible rfl)
          try simp only [Act.put, sA, sB, sC]
          refine tkH 8 ⟨some 43, _, _, _, _, _⟩ ?_ rfl ?_ (by assumption) ?_
          rotate_left
          · (intro w hSw; (try dsimp only at hSw); go_simp; all_goals with_reducible rfl)
          try simp only [Act.put, sA, sB, sC]
          refine wpAnyH_ready (rs := [10]) (by kernel_rfl) (by simp) ?_
          refine AllReadyH.cons rfl (fun K hK => ?_) (AllReadyH.nil)
          obtain ⟨q0, q1, q2, qf, ql, qg⟩ := HN4.out
          have k8 := HK5.out _ hT4
          have nw : w.heap.size ≠ bx := by omega
          have nw2 : bx ≠ w.heap.size := by omega
          go_simp
          go_wp2_with fail
          refine hK.out _ _ (by simp [go_sem, World.cell?_alloc_past, *]) (fun hHeld => ?_)
          clear hK K
          try simp only [Act.put, sA, sB, sC]
          refine tkH 11 ⟨some 6, _, _, _, _, _⟩ ?_ rfl ?_ (by assumption) ?_
          rotate_left
          · (intro w hSw; (try dsimp only at hSw); go_simp; all_goals with_reducible rfl)
          try simp only [Act.put, sA, sB, sC]
          refine wpAnyH_done (by kernel_rfl) ?_ _
          go_wp2_with fail
          go_meet
          exact ⟨bx, rfl, rfl, qg, by simp; omega, by simp [go_sem, *], by simp [go_sem, *], by simp [go_sem, *], (by (repeat (first | (with_reducible refine Below.drew ?_) | (with_reducible refine below_drewN ?_ _) | (with_reducible refine Below.alloc ?_ (by first | omega | (simp; done) | (simp; omega) | (simp at *; omega)) _) | (with_reducible refine Below.setCell ?_ (by first | omega | (simp; done) | (simp; omega) | (simp at *; omega)) _) | (with_reducible exact Below.refl _ _) | (with_reducible assumption) | (with_reducible refine Below.trans ?_ (Below.mono (by assumption) (by first | omega | (simp; done) | (simp; omega) | (simp at *; omega)))))))⟩
      · skip
        go_simp
        go_wp2_with fail
        refine hK.out _ _ (HK5.out _ (hT1.alloc hT1.size _)) (fun hHeld => ?_)
        clear hK K
        try simp only [Act.put, sA, sB, sC]
        have NX2 := NwW.made x2.heap.size v1 hT1.size
        obtain ⟨bx, ebx⟩ : ∃ x, v1.heap.size = x := ⟨_, rfl⟩
        generalize hq1 : v1.alloc (.cells #[.int .i64 0, .int .i64 0, .int .i64 0] 63) = v2 at *
        have hb1 : Below v1.heap.size v1 v2 := by rw [← hq1]; exact (Below.refl _ _).alloc (Nat.le_refl _) _
        have hT2 : Below x2.heap.size x2 v2 := hT1.trans (hb1.mono hT1.size)
        have nbz : bx ≠ bz := by have := (own_block HE1.out bz (by simp [Value.ownBlock])).2; omega
        have HE2 := Lib.hid (own_below HE1.out hb1 (Nat.le_refl _))
        rw [ebx] at NX2 ⊢
        have HN2 := Lib.hid NX2
        clear NX2 hq1 hb1
        refine wpAnyH_ready (rs := [2]) (by kernel_rfl) (by simp) ?_
        refine AllReadyH.cons rfl (fun K hK => ?_) (AllReadyH.nil)
        rw [if_pos (by kernel_rfl)]
        have HX2 := Lib.hid (wi_src (HA5.out _ hT2))
        refine oper_append_sl _ _ 56 rfl x2.heap.size 63 i0 (.agg #[.int .i64 0, .int .i64 0, .int .i64 0]) 3 24 Tryz.underlying56 HI.out HZ0.out HZ1.out HZ2.out rfl (by decide) _ 0 [] rfl HE2.out A n cap (rowsV wiV L) rfl CA.out HLLA.out HX2.out (rows_one wiV_one L) ?d1 ?d2 hT2.size ?_
        case d1 => unfold maxLen; omega
        case d2 => omega
        intro r2 v3 hown hgrow hblk
        try simp only [Nat.zero_add, List.nil_append] at hown
        have hT3 : Below x2.heap.size x2 v3 := hT2.grown hgrow hT2.size (fun r hr => (own_block HE2.out r hr).1)
        have HN3 := Lib.hid (HN2.out.grown (hgrow.block bx HN2.out.lt (fun hh => nbz (ob_some hh.symm))) hgrow.size)
        obtain ⟨G2, cg2, hv2, hS2, _, _, _, _⟩ := SlRows_own (f := wiV) (n := 3) (L := L) (fun _ => rfl) (by rw [← hn.out]; exact hown)
        rw [← hn.out] at hv2
        subst hv2
        have HG3 := Lib.hid hS2
        clear hown hgrow hblk hS2
        refine hK.out _ _ (HK5.out _ hT3) (fun hHeld => ?_)
        clear hK K
        try simp only [Act.put, sA, sB, sC]
        refine wpAnyH_ready (rs := [5]) (by kernel_rfl) (by simp) ?_
        refine AllReadyH.cons rfl (fun K hK => ?_) (AllReadyH.nil)
        go_simp
        refine (WindAt_ok L G2 n cg2 m ⟨0, 0, 0⟩ 19 _ hn (by omega) HG3 hD hG hx hE9).mono ?_
        rintro e v4 ⟨rfl, hb3⟩
        have hT4 : Below x2.heap.size x2 v4 := hT3.trans (hb3.mono hT3.size)
        have HN4 := Lib.hid (HN3.out.below hb3)
        clear hb3
        go_wp2_with fail
        refine hK.out _ _ (HK5.out _ hT4) (fun hHeld => ?_)
        clear hK K
        try simp only [Act.put, sA, sB, sC]
        refine tkH 6 ⟨some 35, _, _, _, _, _⟩ ?_ rfl ?_ (by assumption) ?_
        rotate_left
        · (intro w hSw; (try dsimp only at hSw); go_simp; all_goals with_reducible rfl)
        try simp only [Act.put, sA, sB, sC]
        refine tkH 7 ⟨some 42, _, _, _, _, _⟩ ?_ rfl ?_ (by assumption) ?_
        rotate_left
        · (intro w hSw; (try dsimp only at hSw); go_simp; all_goals with_reducible rfl)
        try simp only [Act.put, sA, sB, sC]
        refine tkH 8 ⟨some 43, _, _, _, _, _⟩ ?_ rfl ?_ (by assumption) ?_
        rotate_left
        · (intro w hSw; (try dsimp only at hSw); go_simp; all_goals with_reducible rfl)
        try simp only [Act.put, sA, sB, sC]
        refine wpAnyH_ready (rs := [10]) (by kernel_rfl) (by simp) ?_
        refine AllReadyH.cons rfl (fun K hK => ?_) (AllReadyH.nil)
        obtain ⟨q0, q1, q2, qf, ql, qg⟩ := HN4.out
        have k8 := HK5.out _ hT4
        have nw : w.heap.size ≠ bx := by omega
        have nw2 : bx ≠ w.heap.size := by omega
        go_simp
        go_wp2_with fail
        refine hK.out _ _ (by simp [go_sem, World.cell?_alloc_past, *]) (fun hHeld => ?_)
        clear hK K
        try simp only [Act.put, sA, sB, sC]
        refine tkH 11 ⟨some 6, _, _, _, _, _⟩ ?_ rfl ?_ (by assumption) ?_
        rotate_left
        · (intro w hSw; (try dsimp only at hSw); go_simp; all_goals with_reducible rfl)
        try simp only [Act.put, sA, sB, sC]
        refine wpAnyH_done (by kernel_rfl) ?_ _
        go_wp2_with fail
        go_meet
        exact ⟨bx, rfl, rfl, qg, by simp; omega, by simp [go_sem, *], by simp [go_sem, *], by simp [go_sem, *], (by (repeat (first | (with_reducible refine Below.drew ?_) | (with_reducible refine below_drewN ?_ _) | (with_reducible refine Below.alloc ?_ (by first | omega | (simp; done) | (simp; omega) | (simp at *; omega)) _) | (with_reducible refine Below.setCell ?_ (by first | omega | (simp; done) | (simp; omega) | (simp at *; omega)) _) | (with_reducible exact Below.refl _ _) | (with_reducible assumption) | (with_reducible refine Below.trans ?_ (Below.mono (by assumption) (by first | omega | (simp; done) | (simp; omega) | (simp at *; omega)))))))⟩
    · skip
      go_simp
      go_wp2_with fail
      refine hK.out _ _ (HK5.out _ (hT0.alloc hT0.size _)) (fun hHeld => ?_)
      clear hK K
      try simp only [Act.put, sA, sB, sC]
      have NX1 := NwW.made x2.heap.size v0 hT0.size
      obtain ⟨bx, ebx⟩ : ∃ x, v0.heap.size = x := ⟨_, rfl⟩
      generalize hq0 : v0.alloc (.cells #[.int .i64 0, .int .i64 0, .int .i64 0] 63) = v1 at *
      have hb0 : Below v0.heap.size v0 v1 := by rw [← hq0]; exact (Below.refl _ _).alloc (Nat.le_refl _) _
      have hT1 : Below x2.heap.size x2 v1 := hT0.trans (hb0.mono hT0.size)
      rw [ebx] at NX1 ⊢
      have HN1 := Lib.hid NX1
      clear NX1 hq0 hb0
      refine wpAnyH_ready (rs := [0]) (by kernel_rfl) (by simp) ?_
      refine AllReadyH.cons rfl (fun K hK => ?_) (AllReadyH.nil)
      go_simp
      go_wp2_with fail
      refine hK.out _ _ (HK5.out _ (hT1.alloc hT1.size _)) (fun hHeld => ?_)
      clear hK K
      try simp only [Act.put, sA, sB, sC]
      obtain ⟨bz, ebz⟩ : ∃ x, v1.heap.size = x := ⟨_, rfl⟩
      generalize hq1 : v1.alloc (.cells #[] 63) = v2
      have hb1 : Below v1.heap.size v1 v2 := by rw [← hq1]; exact (Below.refl _ _).alloc (Nat.le_refl _) _
      have hT2 : Below x2.heap.size x2 v2 := hT1.trans (hb1.mono hT1.size)
      have HE2 : Hid (v2.ownsRow x2.heap.size 63 3 (.slice (some ⟨bz, 0, none⟩) 0 0) 0 []) := Lib.hid (own_emptyS (by rw [← ebz]; exact hT1.size) (by rw [← hq1, ← ebz]; exact allocF_at _ _))
      have nbz : bx ≠ bz := by have := HN1.out.lt; omega
      have HN2 := Lib.hid (HN1.out.below hb1)
      rw [ebz]
      clear hq1 hb1
      refine wpAnyH_ready (rs := [2]) (by kernel_rfl) (by simp) ?_
      refine AllReadyH.cons rfl (fun K hK => ?_) (AllReadyH.nil)
      rw [if_pos (by kernel_rfl)]
      have HX2 := Lib.hid (wi_src (HA5.out _ hT2))
      refine oper_append_sl _ _ 56 rfl x2.heap.size 63 i0 (.agg #[.int .i64 0, .int .i64 0, .int .i64 0]) 3 24 Tryz.underlying56 HI.out HZ0.out HZ1.out HZ2.out rfl (by decide) _ 0 [] rfl HE2.out A n cap (rowsV wiV L) rfl CA.out HLLA.out HX2.out (rows_one wiV_one L) ?d1 ?d2 hT2.size ?_
      case d1 => unfold maxLen; omega
      case d2 => omega
      intro r2 v3 hown hgrow hblk
      try simp only [Nat.zero_add, List.nil_append] at hown
      have hT3 : Below x2.heap.size x2 v3 := hT2.grown hgrow hT2.size (fun r hr => (own_block HE2.out r hr).1)
      have HN3 := Lib.hid (HN2.out.grown (hgrow.block bx HN2.out.lt (fun hh => nbz (ob_some hh.symm))) hgrow.size)
      obtain ⟨G2, cg2, hv2, hS2, _, _, _, _⟩ := SlRows_own (f := wiV) (n := 3) (L := L) (fun _ => rfl) (by rw [← hn.out]; exact hown)
      rw [← hn.out] at hv2
      subst hv2
      have HG3 := Lib.hid hS2
      clear hown hgrow hblk hS2
      refine hK.out _ _ (HK5.out _ hT3) (fun hHeld => ?_)
      clear hK K
      try simp only [Act.put, sA, sB, sC]
      refine wpAnyH_ready (rs := [5]) (by kernel_rfl) (by simp) ?_
      refine AllReadyH.cons rfl (fun K hK => ?_) (AllReadyH.nil)
      go_simp
      refine (WindAt_ok L G2 n cg2 m ⟨0, 0, 0⟩ 19 _ hn (by omega) HG3 hD hG hx hE9).mono ?_
      rintro e v4 ⟨rfl, hb3⟩
      have hT4 : Below x2.heap.size x2 v4 := hT3.trans (hb3.mono hT3.size)
      have HN4 := Lib.hid (HN3.out.below hb3)
      clear hb3
      go_wp2_with fail
      refine hK.out _ _ (HK5.out _ hT4) (fun hHeld => ?_)
      clear hK K
      try simp only [Act.put, sA, sB, sC]
      refine tkH 6 ⟨some 35, _, _, _, _, _⟩ ?_ rfl ?_ (by assumption) ?_
      rotate_left
      · (intro w hSw; (try dsimp only at hSw); go_simp; all_goals with_reducible rfl)
      try simp only [Act.put, sA, sB, sC]
      refine tkH 7 ⟨some 42, _, _, _, _, _⟩ ?_ rfl ?_ (by assumption) ?_
      rotate_left
      · (intro w hSw; (try dsimp only at hSw); go_simp; all_goals with_reducible rfl)
      try simp only [Act.put, sA, sB, sC]
      refine tkH 8 ⟨some 43, _, _, _, _, _⟩ ?_ rfl ?_ (by assumption) ?_
      rotate_left
      · (intro w hSw; (try dsimp only at hSw); go_simp; all_goals with_reducible rfl)
      try simp only [Act.put, sA, sB, sC]
      refine wpAnyH_ready (rs := [10]) (by kernel_rfl) (by simp) ?_
      refine AllReadyH.cons rfl (fun K hK => ?_) (AllReadyH.nil)
      obtain ⟨q0, q1, q2, qf, ql, qg⟩ := HN4.out
      have k8 := HK5.out _ hT4
      have nw : w.heap.size ≠ bx := by omega
      have nw2 : bx ≠ w.heap.size := by omega
      go_simp
      go_wp2_with fail
      refine hK.out _ _ (by simp [go_sem, World.cell?_alloc_past, *]) (fun hHeld => ?_)
      clear hK K
      try simp only [Act.put, sA, sB, sC]
      refine tkH 11 ⟨some 6, _, _, _, _, _⟩ ?_ rfl ?_ (by assumption) ?_
      rotate_left
      · (intro w hSw; (try dsimp only at hSw); go_simp; all_goals with_reducible rfl)
      try simp only [Act.put, sA, sB, sC]
      refine wpAnyH_done (by kernel_rfl) ?_ _
      go_wp2_with fail
      go_meet
      exact ⟨bx, rfl, rfl, qg, by simp; omega, by simp [go_sem, *], by simp [go_sem, *], by simp [go_sem, *], (by (repeat (first | (with_reducible refine Below.drew ?_) | (with_reducible refine below_drewN ?_ _) | (with_reducible refine Below.alloc ?_ (by first | omega | (simp; done) | (simp; omega) | (simp at *; omega)) _) | (with_reducible refine Below.setCell ?_ (by first | omega | (simp; done) | (simp; omega) | (simp at *; omega)) _) | (with_reducible exact Below.refl _ _) | (with_reducible assumption) | (with_reducible refine Below.trans ?_ (Below.mono (by assumption) (by first | omega | (simp; done) | (simp; omega) | (simp at *; omega)))))))⟩
  case rest =>
    obtain ⟨b5, rfl, rfl, g5, l5, y0, y1, y2, hBc⟩ := hcut
    have hcu : Below u.heap.size u wc := hB2.trans (hBc.mono hB2.size)
    have HT : Hid (LwT s0 s1 s2 s3 s4 s5 s6 s7 m a b 0 0 0 b5 w wc) := Lib.hid ⟨HS.out _ hcu, y0, y1, y2, l5⟩
    have HA2 : Hid (∀ y, Below wc.heap.size wc y → SlRows wiV 3 y A L) := Lib.hid fun y hy => HA.out _ (hcu.trans (hy.mono hcu.size))
    clear hB2 zz2 zu2 hc2 c0 c1 c2 c3 c4 c5 c6 c7 c8 c9 c10 hBe hlt HS HA HU hcu hBc g5 l5 y0 y1 y2 HK5 HA5 hw5
    have HA : Hid (∀ y, Below wc.heap.size wc y → SlRows wiV 3 y A L) := HA2
    clear HA2
    have HS : Hid (∀ y, Below wc.heap.size wc y → LwT s0 s1 s2 s3 s4 s5 s6 s7 m a b 0 0 0 b5 w y) := Lib.hid fun y hy => HT.out.below hy
    go_upto_region 6 with (fail)
    have HW6 : Hid (∀ y, Below wc.heap.size wc y → LwS s0 s1 s2 s3 s4 s5 s6 s7 m a b w y) := Lib.hid fun y hy => (HS.out _ hy).ls
    refine wp_region_held_drew (S := (fun w' => w'.cell? ⟨w.heap.size, 0, none⟩ = some (.int .i64 s0) ∧ w'.cell? ⟨w.heap.size, 1, none⟩ = some (.int .i64 s1) ∧ w'.cell? ⟨w.heap.size, 2, none⟩ = some (.int .i64 s2) ∧ w'.cell? ⟨w.heap.size, 3, none⟩ = some (.int .i64 s3) ∧ w'.cell? ⟨w.heap.size, 4, none⟩ = some (.int .i64 s4) ∧ w'.cell? ⟨w.heap.size, 5, none⟩ = some (.int .i64 s5) ∧ w'.cell? ⟨w.heap.size, 6, none⟩ = some (.int .i64 s6) ∧ w'.cell? ⟨w.heap.size, 7, none⟩ = some (.int .i64 s7) ∧ w'.cell? ⟨w.heap.size, 9, none⟩ = some (.int .i64 a) ∧ w'.cell? ⟨w.heap.size, 10, none⟩ = some (.int .i64 b))) (by kernel_rfl) (by exact (let h := HW6.out _ (Below.refl _ _).drew; ⟨h.c0, h.c1, h.c2, h.c3, h.c4, h.c5, h.c6, h.c7, h.c9, h.c10⟩)) (fun hHeld => ?_)
    have hT0 : Below wc.heap.size wc wc.drew := (Below.refl _ _).drew
    generalize hdr : wc.drew = v0 at *
    clear hdr
    refine tkH 0 ⟨some 45, _, _, _, _, _⟩ ?_ rfl ?_ (by assumption) ?_
    rotate_left
    · (intro w hSw; (try dsimp only at hSw); go_simp; all_goals with_reducible rfl)
    try simp only [Act.put, sA, sB, sC]
    refine tkH 1 ⟨some 46, _, _, _, _, _⟩ ?_ rfl ?_ (by assumption) ?_
    rotate_left
    · (intro w hSw; (try dsimp only at hSw); go_simp; all_goals with_reducible rfl)
    try simp only [Act.put, sA, sB, sC]
    refine tkH 3 ⟨some 48, _, _, _, _, _⟩ ?_ rfl ?_ (by assumption) ?_
    rotate_left
    · (intro w hSw; (try dsimp only at hSw); go_simp; all_goals with_reducible rfl)
    try simp only [Act.put, sA, sB, sC]
    refine tkH 5 ⟨some 50, _, _, _, _, _⟩ ?_ rfl ?_ (by assumption) ?_
    rotate_left
    · (intro w hSw; (try dsimp only at hSw); go_simp; all_goals with_reducible rfl)
    try simp only [Act.put, sA, sB, sC]
    refine tkH 6 ⟨some 51, _, _, _, _, _⟩ ?_ rfl ?_ (by assumption) ?_
    rotate_left
    · (intro w hSw; (try dsimp only at hSw); go_simp; all_goals with_reducible rfl)
    try simp only [Act.put, sA, sB, sC]
    refine wpAnyH_ready (rs := [2]) (by kernel_rfl) (by simp) ?_
    refine AllReadyH.cons rfl (fun K hK => ?_) (AllReadyH.nil)
    go_simp
    go_wp2_with fail
    refine hK.out _ _ (let h := HW6.out _ (hT0.alloc hT0.size _); ⟨h.c0, h.c1, h.c2, h.c3, h.c4, h.c5, h.c6, h.c7, h.c9, h.c10⟩) (fun hHeld => ?_)
    clear hK K
    try simp only [Act.put, sA, sB, sC]
    obtain ⟨bz, ebz⟩ : ∃ x, v0.heap.size = x := ⟨_, rfl⟩
    generalize hq0 : v0.alloc (.cells #[] 63) = v1
    have hb0 : Below v0.heap.size v0 v1 := by rw [← hq0]; exact (Below.refl _ _).alloc (Nat.le_refl _) _
    have hT1 : Below wc.heap.size wc v1 := hT0.trans (hb0.mono hT0.size)
    have HE1 : Hid (v1.ownsRow wc.heap.size 63 3 (.slice (some ⟨bz, 0, none⟩) 0 0) 0 []) := Lib.hid (own_emptyS (by rw [← ebz]; exact hT0.size) (by rw [← hq0, ← ebz]; exact allocF_at _ _))
    rw [ebz]
    clear hq0 hb0
    refine wpAnyH_ready (rs := [4]) (by kernel_rfl) (by simp) ?_
    refine AllReadyH.cons rfl (fun K hK => ?_) (AllReadyH.nil)
    rw [if_pos (by kernel_rfl)]
    have HX1 := Lib.hid (wi_src (HA.out _ hT1))
    refine oper_append_sl _ _ 56 rfl wc.heap.size 63 i0 (.agg #[.int .i64 0, .int .i64 0, .int .i64 0]) 3 24 Tryz.underlying56 HI.out HZ0.out HZ1.out HZ2.out rfl (by decide) _ 0 [] rfl HE1.out A n cap (rowsV wiV L) rfl CA.out HLLA.out HX1.out (rows_one wiV_one L) ?d1 ?d2 hT1.size ?_
    case d1 => unfold maxLen; omega
    case d2 => omega
    intro r1 v2 hown hgrow hblk
    try simp only [Nat.zero_add, List.nil_append] at hown
    have hT2 : Below wc.heap.size wc v2 := hT1.grown hgrow hT1.size (fun r hr => (own_block HE1.out r hr).1)
    obtain ⟨G6, cg6, hv6, hS6, _, _, _, _⟩ := SlRows_own (f := wiV) (n := 3) (L := L) (fun _ => rfl) (by rw [← hn.out]; exact hown)
    rw [← hn.out] at hv6
    subst hv6
    have HG6 := Lib.hid hS6
    clear hown hgrow hblk hS6
    refine hK.out _ _ (let h := HW6.out _ hT2; ⟨h.c0, h.c1, h.c2, h.c3, h.c4, h.c5, h.c6, h.c7, h.c9, h.c10⟩) (fun hHeld => ?_)
    clear hK K
    try simp only [Act.put, sA, sB, sC]
    refine wpAnyH_ready (rs := [7]) (by kernel_rfl) (by simp) ?_
    refine AllReadyH.cons rfl (fun K hK => ?_) (AllReadyH.nil)
    go_simp
    have hTv : Below wc.heap.size wc v2 := hT2
    refine (CalmWindows_bad L G6 n cg6 M s0 s1 s2 s3 s4 s5 s6 s7 a b S _ hM hn (by omega) HG6 hCE (hzS)).mono ?_
    rintro e x3 ⟨rfl, hb3⟩
    have hc3 : Below v2.heap.size v2 x3 := hb3
    have hB3 : Below wc.heap.size wc x3 := hTv.trans (hc3.mono hTv.size)
    have zu3 := hB3.size
    go_wp2_with fail
    refine hK.out _ _ (let h := HW6.out _ hB3; ⟨h.c0, h.c1, h.c2, h.c3, h.c4, h.c5, h.c6, h.c7, h.c9, h.c10⟩) (fun hHeld => ?_)
    clear hK K
    try simp only [Act.put, sA, sB, sC]
    refine tkH 8 ⟨some 44, _, _, _, _, _⟩ ?_ rfl ?_ (by assumption) ?_
    rotate_left
    · (intro w hSw; (try dsimp only at hSw); go_simp; all_goals with_reducible rfl)
    try simp only [Act.put, sA, sB, sC]
    refine tkH 9 ⟨some 53, _, _, _, _, _⟩ ?_ rfl ?_ (by assumption) ?_
    rotate_left
    · (intro w hSw; (try dsimp only at hSw); go_simp; all_goals with_reducible rfl)
    try simp only [Act.put, sA, sB, sC]
    refine tkH 10 ⟨some 54, _, _, _, _, _⟩ ?_ rfl ?_ (by assumption) ?_
    rotate_left
    · (intro w hSw; (try dsimp only at hSw); go_simp; all_goals with_reducible rfl)
    try simp only [Act.put, sA, sB, sC]
    refine tkH 11 ⟨some 7, _, _, _, _, _⟩ ?_ rfl ?_ (by assumption) ?_
    rotate_left
    · (intro w hSw; (try dsimp only at hSw); go_simp; all_goals with_reducible rfl)
    try simp only [Act.put, sA, sB, sC]
    refine tkH 12 ⟨some 8, _, _, _, _, _⟩ ?_ rfl ?_ (by assumption) ?_
    rotate_left
    · (intro w hSw; (try dsimp only at hSw); go_simp; all_goals with_reducible rfl)
    try simp only [Act.put, sA, sB, sC]
    refine wpAnyH_done (by kernel_rfl) ?_ _
    clear hb3 hTv hT0 
    obtain ⟨⟨c0, c1, c2, c3, c4, c5, c6, c7, c8, c9, c10, hBe, hlt⟩, y0, y1, y2, l5⟩ := HS.out _ hB3
    go_wp2_with fail
    refine (refWinds_is L A cap n 0 _ hn (by omega) (HA.out _ (by (repeat (first | (with_reducible refine Below.drew ?_) | (with_reducible refine below_drewN ?_ _) | (with_reducible refine Below.alloc ?_ (by first | omega | (simp; done) | (simp; omega) | (simp at *; omega)) _) | (with_reducible refine Below.setCell ?_ (by first | omega | (simp; done) | (simp; omega) | (simp at *; omega)) _) | (with_reducible exact Below.refl _ _) | (with_reducible assumption) | (with_reducible refine Below.trans ?_ (Below.mono (by assumption) (by first | omega | (simp; done) | (simp; omega) | (simp at *; omega)))))))) hD).mono ?_
    rintro e x4 ⟨rfl, hb4⟩
    have zz4 := hb4.size
    try simp at zz4
    have hc4 : Below x3.heap.size x3 x4 := (by (repeat (first | (with_reducible refine Below.drew ?_) | (with_reducible refine below_drewN ?_ _) | (with_reducible refine Below.alloc ?_ (by first | omega | (simp; done) | (simp; omega) | (simp at *; omega)) _) | (with_reducible refine Below.setCell ?_ (by first | omega | (simp; done) | (simp; omega) | (simp at *; omega)) _) | (with_reducible exact Below.refl _ _) | (with_reducible assumption) | (with_reducible refine Below.trans ?_ (Below.mono (by assumption) (by first | omega | (simp; done) | (simp; omega) | (simp at *; omega)))))))
    have hB4 : Below wc.heap.size wc x4 := hB3.trans (hc4.mono hB3.size)
    have zu4 := hB4.size
    clear hb4 hB3 zu3 hc3 c0 c1 c2 c3 c4 c5 c6 c7 c8 c9 c10 hBe hlt y0 y1 y2 l5
    obtain ⟨⟨c0, c1, c2, c3, c4, c5, c6, c7, c8, c9, c10, hBe, hlt⟩, y0, y1, y2, l5⟩ := HS.out _ hB4
    go_upto_region 8 with (fail)
    have HO8 := Lib.hid (World.ownsRow_made (base := x4.heap.size) (e := 63) (size := 3) x4 #[] 0 (Nat.le_refl _) (by simp) (by simp))
    have HX8 := Lib.hid (wi_src (HA.out _ (hB4.trans ((Below.alloc (Below.refl _ x4) (Nat.le_refl _) (.cells #[] 63)).mono hB4.size))))
    go_wp2_with (at_builtin; refine wpList_append_sl rfl _ _ 56 rfl x4.heap.size 63 i0 (.agg #[.int .i64 0, .int .i64 0, .int .i64 0]) 3 24 Tryz.underlying56 HI.out HZ0.out HZ1.out HZ2.out rfl (by decide) _ 0 [] rfl HO8.out A n cap (rowsV wiV L) rfl CA.out HLLA.out HX8.out (rows_one wiV_one L) ?e1 ?e2 ?e3 ?_)
    case e1 => unfold maxLen; omega
    case e2 => omega
    case e3 => simp
    intro r8 v8 hown hgrow hblk
    have hb8 : Below x4.heap.size x4 v8 := ((Below.refl x4.heap.size x4).alloc (Nat.le_refl _) _).grown hgrow (by simp) (by intro k hk; simp [Value.ownBlock] at hk; omega)
    try simp only [Nat.zero_add, List.nil_append] at hown
    obtain ⟨G8, cg8, hv8, hS8, _, _, _, _⟩ := SlRows_own (f := wiV) (n := 3) (L := L) (fun _ => rfl) (by rw [← hn.out]; exact hown)
    rw [← hn.out] at hv8
    subst hv8
    have HG8 := Lib.hid hS8
    clear hown hgrow hblk hS8 HO8 HX8
    go_wp2_with fail
    refine (CheckWinds_is L G8 cg8 n 0 _ hn (by omega) HG8.out hD).mono ?_
    rintro e x5 ⟨rfl, hb5⟩
    have hc5 : Below x4.heap.size x4 x5 := hb8.trans (hb5.mono hb8.size)
    have hB5 : Below wc.heap.size wc x5 := hB4.trans (hc5.mono hB4.size)
    have zu5 := hB5.size
    clear hb5 hb8 hB4 zz4 zu4 hc4 c0 c1 c2 c3 c4 c5 c6 c7 c8 c9 c10 hBe hlt y0 y1 y2 l5
    obtain ⟨⟨c0, c1, c2, c3, c4, c5, c6, c7, c8, c9, c10, hBe, hlt⟩, y0, y1, y2, l5⟩ := HS.out _ hB5
    go_wp2_with fail
    refine (refShel_is M s0 s1 s2 s3 s4 s5 s6 s7 S _ hM hS).mono ?_
    rintro e x6 ⟨rfl, hb6⟩
    have zz6 := hb6.size
    try simp at zz6
    have hc6 : Below x5.heap.size x5 x6 := (by (repeat (first | (with_reducible refine Below.drew ?_) | (with_reducible refine below_drewN ?_ _) | (with_reducible refine Below.alloc ?_ (by first | omega | (simp; done) | (simp; omega) | (simp at *; omega)) _) | (with_reducible refine Below.setCell ?_ (by first | omega | (simp; done) | (simp; omega) | (simp at *; omega)) _) | (with_reducible exact Below.refl _ _) | (with_reducible assumption) | (with_reducible refine Below.trans ?_ (Below.mono (by assumption) (by first | omega | (simp; done) | (simp; omega) | (simp at *; omega)))))))
    have hB6 : Below wc.heap.size wc x6 := hB5.trans (hc6.mono hB5.size)
    have zu6 := hB6.size
    clear hb6 hB5 zu5 hc5 c0 c1 c2 c3 c4 c5 c6 c7 c8 c9 c10 hBe hlt y0 y1 y2 l5
    obtain ⟨⟨c0, c1, c2, c3, c4, c5, c6, c7, c8, c9, c10, hBe, hlt⟩, y0, y1, y2, l5⟩ := HS.out _ hB6
    go_wp2_with fail
    refine (isMin_is m true _ hM0).mono ?_
    rintro e w' ⟨rfl, rfl⟩
    go_wp2_with fail
    refine (refWat_is L A n cap m ⟨0, 0, 0⟩ false _ hn n0 (by omega) (Lib.hid (HA.out _ (by (repeat (first | (with_reducible refine Below.drew ?_) | (with_reducible refine below_drewN ?_ _) | (with_reducible refine Below.alloc ?_ (by first | omega | (simp; done) | (simp; omega) | (simp at *; omega)) _) | (with_reducible refine Below.setCell ?_ (by first | omega | (simp; done) | (simp; omega) | (simp at *; omega)) _) | (with_reducible exact Below.refl _ _) | (with_reducible assumption) | (with_reducible refine Below.trans ?_ (Below.mono (by assumption) (by first | omega | (simp; done) | (simp; omega) | (simp at *; omega))))))))) hs hx hp9).mono ?_
    rintro e x7 ⟨rfl, hb7⟩
    have zz7 := hb7.size
    try simp at zz7
    have hc7 : Below x6.heap.size x6 x7 := (by (repeat (first | (with_reducible refine Below.drew ?_) | (with_reducible refine below_drewN ?_ _) | (with_reducible refine Below.alloc ?_ (by first | omega | (simp; done) | (simp; omega) | (simp at *; omega)) _) | (with_reducible refine Below.setCell ?_ (by first | omega | (simp; done) | (simp; omega) | (simp at *; omega)) _) | (with_reducible exact Below.refl _ _) | (with_reducible assumption) | (with_reducible refine Below.trans ?_ (Below.mono (by assumption) (by first | omega | (simp; done) | (simp; omega) | (simp at *; omega)))))))
    have hB7 : Below wc.heap.size wc x7 := hB6.trans (hc7.mono hB6.size)
    have zu7 := hB7.size
    clear hb7 hB6 zz6 zu6 hc6 c0 c1 c2 c3 c4 c5 c6 c7 c8 c9 c10 hBe hlt y0 y1 y2 l5
    obtain ⟨⟨c0, c1, c2, c3, c4, c5, c6, c7, c8, c9, c10, hBe, hlt⟩, y0, y1, y2, l5⟩ := HS.out _ hB7
    go_wp2
    go_ret
    exact ⟨rfl, (by (repeat (first | (with_reducible refine Below.drew ?_) | (with_reducible refine below_drewN ?_ _) | (with_reducible refine Below.alloc ?_ (by first | omega | (simp; done) | (simp; omega) | (simp at *; omega)) _) | (with_reducible refine Below.setCell ?_ (by first | omega | (simp; done) | (simp; omega) | (simp at *; omega)) _) | (with_reducible exact Below.refl _ _) | (with_reducible assumption) | (with_reducible refine Below.trans ?_ (Below.mono (by assumption) (by first | omega | (simp; done) | (simp; omega) | (simp at *; omega)))))))⟩
set_option maxRecDepth 100000 in
set_option maxHeartbeats 8000000 in
theorem wnd_7 (s0 s1 s2 s3 s4 s5 s6 s7 m a b : Int) (M : List Int) (L : List Wi) (A : Option Addr) (n cap : Nat) (w : World) (hM : Hid (M = [s0, s1, s2, s3, s4, s5, s6, s7])) (hn : Hid (n = L.length)) (HR : Hid (∀ w' : World, Below w.heap.size w w' → SlRows wiV 3 w' A L)) (CA : Hid (A = none → n = 0 ∧ cap = 0)) (hl : n ≤ 12) (hD : Hid (wndE L = 0)) (hS : Hid (shE M = 0)) (P : Int) (hP : Hid (spnE a b = P)) (hzP : (P != 0) = true) (hBr : Hid (((P : Int) != 0 || decide (b - a < 200)) = true)) (hM0 : Hid (inB m 0 1000000 = true)) (ht : begU L m n = 0) :
    Calls Tryz.prog 6 #[.slice A n cap, .agg #[.int .i64 s0, .int .i64 s1, .int .i64 s2, .int .i64 s3, .int .i64 s4, .int .i64 s5, .int .i64 s6, .int .i64 s7, .int .i64 m, .int .i64 a, .int .i64 b]] w fun e w' => e = .returned (.bool true) ∧ Below w.heap.size w w' := by
  obtain ⟨i0, hi, hz0', hz1', hz2'⟩ := info_partsS infoWi
  have HI := Lib.hid hi
  have HZ0 := Lib.hid hz0'
  have HZ1 := Lib.hid hz1'
  have HZ2 := Lib.hid hz2'
  have HLLA := Lib.hid (rowsV_len (f := wiV) (n := 3) (fun _ => rfl) L)
  rw [← hn.out] at HLLA
  clear hi hz0' hz1' hz2'
  have i12 : ¬ (12 : Int) < (n : Int) := by omega
  have i62 : ¬ (62 : Int) < (n : Int) := by omega
  have iP : ¬ P = 0 := by simpa using hzP
  have jP : (P == 0) = false := by simpa [bne] using hzP
  have hG : Hid (rngE m 0 1000000 = 0) := Lib.hid (rngE_t hM0.out)
  obtain ⟨n0', _, _, hs'⟩ := wndE_ok hD.out
  have hs := Lib.hid hs'
  have n0 : 0 < n := by rw [hn.out]; exact n0'
  clear n0' hs'
  have hx : Hid (atW L m n = ⟨0, 0, 0⟩) := Lib.hid (by unfold atW; rw [if_pos ht])
  have hE9 : Hid (atE L m n = 19) := Lib.hid (by unfold atE; rw [if_pos ht])
  have hp9 : Hid (decide (begU L m n ≠ 0) = false) := Lib.hid (by rw [ht]; rfl)
  clear ht
  have hCE : Hid (calE M L a b = P) := Lib.hid (by unfold calE firE firE firE; rw [hS.out, hD.out, hP.out, if_pos rfl, if_pos rfl, if_neg iP])
  go_enter Tryz.func6, Tryz.ntmps6
  go_upto_region 1 with (fail)
  refine wp_world (LwS s0 s1 s2 s3 s4 s5 s6 s7 m a b w) ⟨by simp [go_sem, World.cell?_alloc_past], by simp [go_sem, World.cell?_alloc_past], by simp [go_sem, World.cell?_alloc_past], by simp [go_sem, World.cell?_alloc_past], by simp [go_sem, World.cell?_alloc_past], by simp [go_sem, World.cell?_alloc_past], by simp [go_sem, World.cell?_alloc_past], by simp [go_sem, World.cell?_alloc_past], by simp [go_sem, World.cell?_alloc_past], by simp [go_sem, World.cell?_alloc_past], by simp [go_sem, World.cell?_alloc_past], (by (repeat (first | (with_reducible refine Below.drew ?_) | (with_reducible refine below_drewN ?_ _) | (with_reducible refine Below.alloc ?_ (by first | omega | (simp; done) | (simp; omega) | (simp at *; omega)) _) | (with_reducible refine Below.setCell ?_ (by first | omega | (simp; done) | (simp; omega) | (simp at *; omega)) _) | (with_reducible exact Below.refl _ _) | (with_reducible assumption) | (with_reducible refine Below.trans ?_ (Below.mono (by assumption) (by first | omega | (simp; done) | (simp; omega) | (simp at *; omega))))))), by simp⟩ (fun u hu => ?_)
  have HU := Lib.hid hu
  have HS : Hid (∀ x, Below u.heap.size u x → LwS s0 s1 s2 s3 s4 s5 s6 s7 m a b w x) := Lib.hid fun x hx => HU.out.below hx
  have HA : Hid (∀ x, Below u.heap.size u x → SlRows wiV 3 x A L) := Lib.hid fun x hx => HR.out _ (HU.out.below hx).be
  clear hu
  go_wp2_with fail
  refine (awake_any _).mono ?_
  rintro e x1 ⟨rfl, hb1⟩
  have zz1 := hb1.size
  try simp at zz1
  have hc1 : Below u.heap.size u x1 := (by (repeat (first | (with_reducible refine Below.drew ?_) | (with_reducible refine below_drewN ?_ _) | (with_reducible refine Below.alloc ?_ (by first | omega | (simp; done) | (simp; omega) | (simp at *; omega)) _) | (with_reducible refine Below.setCell ?_ (by first | omega | (simp; done) | (simp; omega) | (simp at *; omega)) _) | (with_reducible exact Below.refl _ _) | (with_reducible assumption) | (with_reducible refine Below.trans ?_ (Below.mono (by assumption) (by first | omega | (simp; done) | (simp; omega) | (simp at *; omega)))))))
  have hB1 : Below u.heap.size u x1 := hc1
  have zu1 := hB1.size
  clear hb1 
  obtain ⟨c0, c1, c2, c3, c4, c5, c6, c7, c8, c9, c10, hBe, hlt⟩ := HS.out _ hB1
  go_wp2_with fail
  refine (brief_is a b P true _ hP hBr).mono ?_
  rintro e x2 ⟨rfl, hb2⟩
  have zz2 := hb2.size
  try simp at zz2
  have hc2 : Below x1.heap.size x1 x2 := (by (repeat (first | (with_reducible refine Below.drew ?_) | (with_reducible refine below_drewN ?_ _) | (with_reducible refine Below.alloc ?_ (by first | omega | (simp; done) | (simp; omega) | (simp at *; omega)) _) | (with_reducible refine Below.setCell ?_ (by first | omega | (simp; done) | (simp; omega) | (simp at *; omega)) _) | (with_reducible exact Below.refl _ _) | (with_reducible assumption) | (with_reducible refine Below.trans ?_ (Below.mono (by assumption) (by first | omega | (simp; done) | (simp; omega) | (simp at *; omega)))))))
  have hB2 : Below u.heap.size u x2 := hB1.trans (hc2.mono hB1.size)
  have zu2 := hB2.size
  clear hb2 hB1 zz1 zu1 hc1 c0 c1 c2 c3 c4 c5 c6 c7 c8 c9 c10 hBe hlt
  obtain ⟨c0, c1, c2, c3, c4, c5, c6, c7, c8, c9, c10, hBe, hlt⟩ := HS.out _ hB2
  go_upto_region 5 with (fail)
  have HK5 : Hid (∀ y, Below x2.heap.size x2 y → y.cell? ⟨w.heap.size, 8, none⟩ = some (.int .i64 m)) := Lib.hid fun y hy => (HS.out _ (hB2.trans (hy.mono hB2.size))).c8
  have HA5 : Hid (∀ y, Below x2.heap.size x2 y → SlRows wiV 3 y A L) := Lib.hid fun y hy => HA.out _ (hB2.trans (hy.mono hB2.size))
  have hw5 : w.heap.size < x2.heap.size := hlt
  go_cut [5, 6] from 7 (fun s5 s6 wx => WtR 0 0 0 19 x2 s5 s6 wx)
  case first =>
    clear c0 c1 c2 c3 c4 c5 c6 c7 c8 c9 c10 hBe hlt HS HA HU
    refine wp_region_held_drew (S := (fun w' => w'.cell? ⟨w.heap.size, 8, none⟩ = some (.int .i64 m))) (by kernel_rfl) (by exact HK5.out _ (Below.refl _ _).drew) (fun hHeld => ?_)
    have hT0 : Below x2.heap.size x2 x2.drew := (Below.refl _ _).drew
    generalize hdr : x2.drew = v0 at *
    clear hdr
    refine tkH 1 ⟨some 37, _, _, _, _, _⟩ ?_ rfl ?_ (by assumption) ?_
    rotate_left
    · (intro w hSw; (try dsimp only at hSw); go_simp; all_goals with_reducible rfl)
    try simp only [Act.put, sA, sB, sC]
    refine tkH 3 ⟨some 39, _, _, _, _, _⟩ ?_ rfl ?_ (by assumption) ?_
    rotate_left
    · (intro w hSw; (try dsimp only at hSw); go_simp; all_goals with_reducible rfl)
    try simp only [Act.put, sA, sB, sC]
    refine tkH 4 ⟨some 40, _, _, _, _, _⟩ ?_ rfl ?_ (by assumption) ?_
    rotate_left
    · (intro w hSw; (try dsimp only at hSw); go_simp; all_goals with_reducible rfl)
    try simp only [Act.put, sA, sB, sC]
    refine wpAnyH_ready (rs := [0, 9]) (by kernel_rfl) (by simp) ?_
    refine AllReadyH.cons rfl (fun K hK => ?_) (AllReadyH.cons rfl (fun K hK => ?_) (AllReadyH.nil))
    · skip
      go_simp
      go_wp2_with fail
      refine hK.out _ _ (HK5.out _ (hT0.alloc hT0.size _)) (fun hHeld => ?_)
      clear hK K
      try simp only [Act.put, sA, sB, sC]
      obtain ⟨bz, ebz⟩ : ∃ x, v0.heap.size = x := ⟨_, rfl⟩
      generalize hq0 : v0.alloc (.cells #[] 63) = v1
      have hb0 : Below v0.heap.size v0 v1 := by rw [← hq0]; exact (Below.refl _ _).alloc (Nat.le_refl _) _
      have hT1 : Below x2.heap.size x2 v1 := hT0.trans (hb0.mono hT0.size)
      have HE1 : Hid (v1.ownsRow x2.heap.size 63 3 (.slice (some ⟨bz, 0, none⟩) 0 0) 0 []) := Lib.hid (own_emptyS (by rw [← ebz]; exact hT0.size) (by rw [← hq0, ← ebz]; exact allocF_at _ _))
      rw [ebz]
      clear hq0 hb0
      refine wpAnyH_ready (rs := [2, 9]) (by kernel_rfl) (by simp) ?_
      refine AllReadyH.cons rfl (fun K hK => ?_) (AllReadyH.cons rfl (fun K hK => ?_) (AllReadyH.nil))
      · skip
        rw [if_pos (by kernel_rfl)]
        have HX1 := Lib.hid (wi_src (HA5.out _ hT1))
        refine oper_append_sl _ _ 56 rfl x2.heap.size 63 i0 (.agg #[.int .i64 0, .int .i64 0, .int .i64 0]) 3 24 Tryz.underlying56 HI.out HZ0.out HZ1.out HZ2.out rfl (by decide) _ 0 [] rfl HE1.out A n cap (rowsV wiV L) rfl CA.out HLLA.out HX1.out (rows_one wiV_one L) ?d1 ?d2 hT1.size ?_
        case d1 => unfold maxLen; omega
        case d2 => omega
        intro r1 v2 hown hgrow hblk
        try simp only [Nat.zero_add, List.nil_append] at hown
        have hT2 : Below x2.heap.size x2 v2 := hT1.grown hgrow hT1.size (fun r hr => (own_block HE1.out r hr).1)
        obtain ⟨G1, cg1, hv1, hS1, _, _, _, _⟩ := SlRows_own (f := wiV) (n := 3) (L := L) (fun _ => rfl) (by rw [← hn.out]; exact hown)
        rw [← hn.out] at hv1
        subst hv1
        have HG2 := Lib.hid hS1
        clear hown hgrow hblk hS1
        refine hK.out _ _ (HK5.out _ hT2) (fun hHeld => ?_)
        clear hK K
        try simp only [Act.put, sA, sB, sC]
        refine wpAnyH_ready (rs := [5, 9]) (by kernel_rfl) (by simp) ?_
        refine AllReadyH.cons rfl (fun K hK => ?_) (AllReadyH.cons rfl (fun K hK => ?_) (AllReadyH.nil))
        · skip
          go_simp
          refine (WindAt_ok L G1 n cg1 m ⟨0, 0, 0⟩ 19 _ hn (by omega) HG2 hD hG hx hE9).mono ?_
          rintro e v3 ⟨rfl, hb2⟩
          have hT3 : Below x2.heap.size x2 v3 := hT2.trans (hb2.mono hT2.size)
          clear hb2
          go_wp2_with fail
          refine hK.out _ _ (HK5.out _ hT3) (fun hHeld => ?_)
          clear hK K
          try simp only [Act.put, sA, sB, sC]
          refine tkH 6 ⟨some 35, _, _, _, _, _⟩ ?_ rfl ?_ (by assumption) ?_
          rotate_left
          · (intro w hSw; (try dsimp only at hSw); go_simp; all_goals with_reducible rfl)
          try simp only [Act.put, sA, sB, sC]
          refine tkH 7 ⟨some 42, _, _, _, _, _⟩ ?_ rfl ?_ (by assumption) ?_
          rotate_left
          · (intro w hSw; (try dsimp only at hSw); go_simp; all_goals with_reducible rfl)
          try simp only [Act.put, sA, sB, sC]
          refine tkH 8 ⟨some 43, _, _, _, _, _⟩ ?_ rfl ?_ (by assumption) ?_
          rotate_left
          · (intro w hSw; (try dsimp only at hSw); go_simp; all_goals with_reducible rfl)
          try simp only [Act.put, sA, sB, sC]
          refine wpAnyH_ready (rs := [9]) (by kernel_rfl) (by simp) ?_
          refine AllReadyH.cons rfl (fun K hK => ?_) (AllReadyH.nil)
          go_simp
          go_wp2_with fail
          refine hK.out _ _ (HK5.out _ (hT3.alloc hT3.size _)) (fun hHeld => ?_)
          clear hK K
          try simp only [Act.put, sA, sB, sC]
          have NX4 := NwW.made x2.heap.size v3 hT3.size
          obtain ⟨bx, ebx⟩ : ∃ x, v3.heap.size = x := ⟨_, rfl⟩
          generalize hq3 : v3.alloc (.cells #[.int .i64 0, .int .i64 0, .int .i64 0] 63) = v4 at *
          have hb3 : Below v3.heap.size v3 v4 := by rw [← hq3]; exact (Below.refl _ _).alloc (Nat.le_refl _) _
          have hT4 : Below x2.heap.size x2 v4 := hT3.trans (hb3.mono hT3.size)
          rw [ebx] at NX4 ⊢
          have HN4 := Lib.hid NX4
          clear NX4 hq3 hb3
          refine wpAnyH_ready (rs := [10]) (by kernel_rfl) (by simp) ?_
          refine AllReadyH.cons rfl (fun K hK => ?_) (AllReadyH.nil)
          obtain ⟨q0, q1, q2, qf, ql, qg⟩ := HN4.out
          have k8 := HK5.out _ hT4
          have nw : w.heap.size ≠ bx := by omega
          have nw2 : bx ≠ w.heap.size := by omega
          go_simp
          go_wp2_with fail
          refine hK.out _ _ (by simp [go_sem, World.cell?_alloc_past, *]) (fun hHeld => ?_)
          clear hK K
          try simp only [Act.put, sA, sB, sC]
          refine tkH 11 ⟨some 6, _, _, _, _, _⟩ ?_ rfl ?_ (by assumption) ?_
          rotate_left
          · (intro w hSw; (try dsimp only at hSw); go_simp; all_goals with_reducible rfl)
          try simp only [Act.put, sA, sB, sC]
          refine wpAnyH_done (by kernel_rfl) ?_ _
          go_wp2_with fail
          go_meet
          exact ⟨bx, rfl, rfl, qg, by simp; omega, by simp [go_sem, *], by simp [go_sem, *], by simp [go_sem, *], (by (repeat (first | (with_reducible refine Below.drew ?_) | (with_reducible refine below_drewN ?_ _) | (with_reducible refine Below.alloc ?_ (by first | omega | (simp; done) | (simp; omega) | (simp at *; omega)) _) | (with_reducible refine Below.setCell ?_ (by first | omega | (simp; done) | (simp; omega) | (simp at *; omega)) _) | (with_reducible exact Below.refl _ _) | (with_reducible assumption) | (with_reducible refine Below.trans ?_ (Below.mono (by assumption) (by first | omega | (simp; done) | (simp; omega) | (simp at *; omega)))))))⟩
        · skip
          go_simp
          go_wp2_with fail
          refine hK.out _ _ (HK5.out _ (hT2.alloc hT2.size _)) (fun hHeld => ?_)
          clear hK K
          try simp only [Act.put, sA, sB, sC]
          have NX3 := NwW.made x2.heap.size v2 hT2.size
          obtain ⟨bx, ebx⟩ : ∃ x, v2.heap.size = x := ⟨_, rfl⟩
          generalize hq2 : v2.alloc (.cells #[.int .i64 0, .int .i64 0, .int .i64 0] 63) = v3 at *
          have hb2 : Below v2.heap.size v2 v3 := by rw [← hq2]; exact (Below.refl _ _).alloc (Nat.le_refl _) _
          have hT3 : Below x2.heap.size x2 v3 := hT2.trans (hb2.mono hT2.size)
          have HG3 := Lib.hid (HG2.out.below hb2)
          rw [ebx] at NX3 ⊢
          have HN3 := Lib.hid NX3
          clear NX3 hq2 hb2
          refine wpAnyH_ready (rs := [5]) (by kernel_rfl) (by simp) ?_
          refine AllReadyH.cons rfl (fun K hK => ?_) (AllReadyH.nil)
          go_simp
          refine (WindAt_ok L G1 n cg1 m ⟨0, 0, 0⟩ 19 _ hn (by omega) HG3 hD hG hx hE9).mono ?_
          rintro e v4 ⟨rfl, hb3⟩
          have hT4 : Below x2.heap.size x2 v4 := hT3.trans (hb3.mono hT3.size)
          have HN4 := Lib.hid (HN3.out.below hb3)
          clear hb3
          go_wp2_with fail
          refine hK.out _ _ (HK5.out _ hT4) (fun hHeld => ?_)
          clear hK K
          try simp only [Act.put, sA, sB, sC]
          refine tkH 6 ⟨some 35, _, _, _, _, _⟩ ?_ rfl ?_ (by assumption) ?_
          rotate_left
          · (intro w hSw; (try dsimp only at hSw); go_simp; all_goals with_reducible rfl)
          try simp only [Act.put, sA, sB, sC]
          refine tkH 7 ⟨some 42, _, _, _, _, _⟩ ?_ rfl ?_ (by assumption) ?_
          rotate_left
          · (intro w hSw; (try dsimp only at hSw); go_simp; all_goals with_reducible rfl)
          try simp only [Act.put, sA, sB, sC]
          refine tkH 8 ⟨some 43, _, _, _, _, _⟩ ?_ rfl ?_ (by assumption) ?_
          rotate_left
          · (intro w hSw; (try dsimp only at hSw); go_simp; all_goals with_reducible rfl)
          try simp only [Act.put, sA, sB, sC]
          refine wpAnyH_ready (rs := [10]) (by kernel_rfl) (by simp) ?_
          refine AllReadyH.cons rfl (fun K hK => ?_) (AllReadyH.nil)
          obtain ⟨q0, q1, q2, qf, ql, qg⟩ := HN4.out
          have k8 := HK5.out _ hT4
          have nw : w.heap.size ≠ bx := by omega
          have nw2 : bx ≠ w.heap.size := by omega
          go_simp
          go_wp2_with fail
          refine hK.out _ _ (by simp [go_sem, World.cell?_alloc_past, *]) (fun hHeld => ?_)
          clear hK K
          try simp only [Act.put, sA, sB, sC]
          refine tkH 11 ⟨some 6, _, _, _, _, _⟩ ?_ rfl ?_ (by assumption) ?_
          rotate_left
          · (intro w hSw; (try dsimp only at hSw); go_simp; all_goals with_reducible rfl)
          try simp only [Act.put, sA, sB, sC]
          refine wpAnyH_done (by kernel_rfl) ?_ _
          go_wp2_with fail
          go_meet
          exact ⟨bx, rfl, rfl, qg, by simp; omega, by simp [go_sem, *], by simp [go_sem, *], by simp [go_sem, *], (by (repeat (first | (with_reducible refine Below.drew ?_) | (with_reducible refine below_drewN ?_ _) | (with_reducible refine Below.alloc ?_ (by first | omega | (simp; done) | (simp; omega) | (simp at *; omega)) _) | (with_reducible refine Below.setCell ?_ (by first | omega | (simp; done) | (simp; omega) | (simp at *; omega)) _) | (with_reducible exact Below.refl _ _) | (with_reducible assumption) | (with_reducible refine Below.trans ?_ (Below.mono (by assumption) (by first | omega | (simp; done) | (simp; omega) | (simp at *; omega)))))))⟩
      · skip
        go_simp
        go_wp2_with fail
        refine hK.out _ _ (HK5.out _ (hT1.alloc hT1.size _)) (fun hHeld => ?_)
        clear hK K
        try simp only [Act.put, sA, sB, sC]
        have NX2 := NwW.made x2.heap.size v1 hT1.size
        obtain ⟨bx, ebx⟩ : ∃ x, v1.heap.size = x := ⟨_, rfl⟩
        generalize hq1 : v1.alloc (.cells #[.int .i64 0, .int .i64 0, .int .i64 0] 63) = v2 at *
        have hb1 : Below v1.heap.size v1 v2 := by rw [← hq1]; exact (Below.refl _ _).alloc (Nat.le_refl _) _
        have hT2 : Below x2.heap.size x2 v2 := hT1.trans (hb1.mono hT1.size)
        have nbz : bx ≠ bz := by have := (own_block HE1.out bz (by simp [Value.ownBlock])).2; omega
        have HE2 := Lib.hid (own_below HE1.out hb1 (Nat.le_refl _))
        rw [ebx] at NX2 ⊢
        have HN2 := Lib.hid NX2
        clear NX2 hq1 hb1
        refine wpAnyH_ready (rs := [2]) (by kernel_rfl) (by simp) ?_
        refine AllReadyH.cons rfl (fun K hK => ?_) (AllReadyH.nil)
        rw [if_pos (by kernel_rfl)]
        have HX2 := Lib.hid (wi_src (HA5.out _ hT2))
        refine oper_append_sl _ _ 56 rfl x2.heap.size 63 i0 (.agg #[.int .i64 0, .int .i64 0, .int .i64 0]) 3 24 Tryz.underlying56 HI.out HZ0.out HZ1.out HZ2.out rfl (by decide) _ 0 [] rfl HE2.out A n cap (rowsV wiV L) rfl CA.out HLLA.out HX2.out (rows_one wiV_one L) ?d1 ?d2 hT2.size ?_
        case d1 => unfold maxLen; omega
        case d2 => omega
        intro r2 v3 hown hgrow hblk
        try simp only [Nat.zero_add, List.nil_append] at hown
        have hT3 : Below x2.heap.size x2 v3 := hT2.grown hgrow hT2.size (fun r hr => (own_block HE2.out r hr).1)
        have HN3 := Lib.hid (HN2.out.grown (hgrow.block bx HN2.out.lt (fun hh => nbz (ob_some hh.symm))) hgrow.size)
        obtain ⟨G2, cg2, hv2, hS2, _, _, _, _⟩ := SlRows_own (f := wiV) (n := 3) (L := L) (fun _ => rfl) (by rw [← hn.out]; exact hown)
        rw [← hn.out] at hv2
        subst hv2
        have HG3 := Lib.hid hS2
        clear hown hgrow hblk hS2
        refine hK.out _ _ (HK5.out _ hT3) (fun hHeld => ?_)
        clear hK K
        try simp only [Act.put, sA, sB, sC]
        refine wpAnyH_ready (rs := [5]) (by kernel_rfl) (by simp) ?_
        refine AllReadyH.cons rfl (fun K hK => ?_) (AllReadyH.nil)
        go_simp
        refine (WindAt_ok L G2 n cg2 m ⟨0, 0, 0⟩ 19 _ hn (by omega) HG3 hD hG hx hE9).mono ?_
        rintro e v4 ⟨rfl, hb3⟩
        have hT4 : Below x2.heap.size x2 v4 := hT3.trans (hb3.mono hT3.size)
        have HN4 := Lib.hid (HN3.out.below hb3)
        clear hb3
        go_wp2_with fail
        refine hK.out _ _ (HK5.out _ hT4) (fun hHeld => ?_)
        clear hK K
        try simp only [Act.put, sA, sB, sC]
        refine tkH 6 ⟨some 35, _, _, _, _, _⟩ ?_ rfl ?_ (by assumption) ?_
        rotate_left
        · (intro w hSw; (try dsimp only at hSw); go_simp; all_goals with_reducible rfl)
        try simp only [Act.put, sA, sB, sC]
        refine tkH 7 ⟨some 42, _, _, _, _, _⟩ ?_ rfl ?_ (by assumption) ?_
        rotate_left
        · (intro w hSw; (try dsimp only at hSw); go_simp; all_goals with_reducible rfl)
        try simp only [Act.put, sA, sB, sC]
        refine tkH 8 ⟨some 43, _, _, _, _, _⟩ ?_ rfl ?_ (by assumption) ?_
        rotate_left
        · (intro w hSw; (try dsimp only at hSw); go_simp; all_goals with_reducible rfl)
        try simp only [Act.put, sA, sB, sC]
        refine wpAnyH_ready (rs := [10]) (by kernel_rfl) (by simp) ?_
        refine AllReadyH.cons rfl (fun K hK => ?_) (AllReadyH.nil)
        obtain ⟨q0, q1, q2, qf, ql, qg⟩ := HN4.out
        have k8 := HK5.out _ hT4
        have nw : w.heap.size ≠ bx := by omega
        have nw2 : bx ≠ w.heap.size := by omega
        go_simp
        go_wp2_with fail
        refine hK.out _ _ (by simp [go_sem, World.cell?_alloc_past, *]) (fun hHeld => ?_)
        clear hK K
        try simp only [Act.put, sA, sB, sC]
        refine tkH 11 ⟨some 6, _, _, _, _, _⟩ ?_ rfl ?_ (by assumption) ?_
        rotate_left
        · (intro w hSw; (try dsimp only at hSw); go_simp; all_goals with_reducible rfl)
        try simp only [Act.put, sA, sB, sC]
        refine wpAnyH_done (by kernel_rfl) ?_ _
        go_wp2_with fail
        go_meet
        exact ⟨bx, rfl, rfl, qg, by simp; omega, by simp [go_sem, *], by simp [go_sem, *], by simp [go_sem, *], (by (repeat (first | (with_reducible refine Below.drew ?_) | (with_reducible refine below_drewN ?_ _) | (with_reducible refine Below.alloc ?_ (by first | omega | (simp; done) | (simp; omega) | (simp at *; omega)) _) | (with_reducible refine Below.setCell ?_ (by first | omega | (simp; done) | (simp; omega) | (simp at *; omega)) _) | (with_reducible exact Below.refl _ _) | (with_reducible assumption) | (with_reducible refine Below.trans ?_ (Below.mono (by assumption) (by first | omega | (simp; done) | (simp; omega) | (simp at *; omega)))))))⟩
    · skip
      go_simp
      go_wp2_with fail
      refine hK.out _ _ (HK5.out _ (hT0.alloc hT0.size _)) (fun hHeld => ?_)
      clear hK K
      try simp only [Act.put, sA, sB, sC]
      have NX1 := NwW.made x2.heap.size v0 hT0.size
      obtain ⟨bx, ebx⟩ : ∃ x, v0.heap.size = x := ⟨_, rfl⟩
      generalize hq0 : v0.alloc (.cells #[.int .i64 0, .int .i64 0, .int .i64 0] 63) = v1 at *
      have hb0 : Below v0.heap.size v0 v1 := by rw [← hq0]; exact (Below.refl _ _).alloc (Nat.le_refl _) _
      have hT1 : Below x2.heap.size x2 v1 := hT0.trans (hb0.mono hT0.size)
      rw [ebx] at NX1 ⊢
      have HN1 := Lib.hid NX1
      clear NX1 hq0 hb0
      refine wpAnyH_ready (rs := [0]) (by kernel_rfl) (by simp) ?_
      refine AllReadyH.cons rfl (fun K hK => ?_) (AllReadyH.nil)
      go_simp
      go_wp2_with fail
      refine hK.out _ _ (HK5.out _ (hT1.alloc hT1.size _)) (fun hHeld => ?_)
      clear hK K
      try simp only [Act.put, sA, sB, sC]
      obtain ⟨bz, ebz⟩ : ∃ x, v1.heap.size = x := ⟨_, rfl⟩
      generalize hq1 : v1.alloc (.cells #[] 63) = v2
      have hb1 : Below v1.heap.size v1 v2 := by rw [← hq1]; exact (Below.refl _ _).alloc (Nat.le_refl _) _
      have hT2 : Below x2.heap.size x2 v2 := hT1.trans (hb1.mono hT1.size)
      have HE2 : Hid (v2.ownsRow x2.heap.size 63 3 (.slice (some ⟨bz, 0, none⟩) 0 0) 0 []) := Lib.hid (own_emptyS (by rw [← ebz]; exact hT1.size) (by rw [← hq1, ← ebz]; exact allocF_at _ _))
      have nbz : bx ≠ bz := by have := HN1.out.lt; omega
      have HN2 := Lib.hid (HN1.out.below hb1)
      rw [ebz]
      clear hq1 hb1
      refine wpAnyH_ready (rs := [2]) (by kernel_rfl) (by simp) ?_
      refine AllReadyH.cons rfl (fun K hK => ?_) (AllReadyH.nil)
      rw [if_pos (by kernel_rfl)]
      have HX2 := Lib.hid (wi_src (HA5.out _ hT2))
      refine oper_append_sl _ _ 56 rfl x2.heap.size 63 i0 (.agg #[.int .i64 0, .int .i64 0, .int .i64 0]) 3 24 Tryz.underlying56 HI.out HZ0.out HZ1.out HZ2.out rfl (by decide) _ 0 [] rfl HE2.out A n cap (rowsV wiV L) rfl CA.out HLLA.out HX2.out (rows_one wiV_one L) ?d1 ?d2 hT2.size ?_
      case d1 => unfold maxLen; omega
      case d2 => omega
      intro r2 v3 hown hgrow hblk
      try simp only [Nat.zero_add, List.nil_append] at hown
      have hT3 : Below x2.heap.size x2 v3 := hT2.grown hgrow hT2.size (fun r hr => (own_block HE2.out r hr).1)
      have HN3 := Lib.hid (HN2.out.grown (hgrow.block bx HN2.out.lt (fun hh => nbz (ob_some hh.symm))) hgrow.size)
      obtain ⟨G2, cg2, hv2, hS2, _, _, _, _⟩ := SlRows_own (f := wiV) (n := 3) (L := L) (fun _ => rfl) (by rw [← hn.out]; exact hown)
      rw [← hn.out] at hv2
      subst hv2
      have HG3 := Lib.hid hS2
      clear hown hgrow hblk hS2
      refine hK.out _ _ (HK5.out _ hT3) (fun hHeld => ?_)
      clear hK K
      try simp only [Act.put, sA, sB, sC]
      refine wpAnyH_ready (rs := [5]) (by kernel_rfl) (by simp) ?_
      refine AllReadyH.cons rfl (fun K hK => ?_) (AllReadyH.nil)
      go_simp
      refine (WindAt_ok L G2 n cg2 m ⟨0, 0, 0⟩ 19 _ hn (by omega) HG3 hD hG hx hE9).mono ?_
      rintro e v4 ⟨rfl, hb3⟩
      have hT4 : Below x2.heap.size x2 v4 := hT3.trans (hb3.mono hT3.size)
      have HN4 := Lib.hid (HN3.out.below hb3)
      clear hb3
      go_wp2_with fail
      refine hK.out _ _ (HK5.out _ hT4) (fun hHeld => ?_)
      clear hK K
      try simp only [Act.put, sA, sB, sC]
      refine tkH 6 ⟨some 35, _, _, _, _, _⟩ ?_ rfl ?_ (by assumption) ?_
      rotate_left
      · (intro w hSw; (try dsimp only at hSw); go_simp; all_goals with_reducible rfl)
      try simp only [Act.put, sA, sB, sC]
      refine tkH 7 ⟨some 42, _, _, _, _, _⟩ ?_ rfl ?_ (by assumption) ?_
      rotate_left
      · (intro w hSw; (try dsimp only at hSw); go_simp; all_goals with_reducible rfl)
      try simp only [Act.put, sA, sB, sC]
      refine tkH 8 ⟨some 43, _, _, _, _, _⟩ ?_ rfl ?_ (by assumption) ?_
      rotate_left
      · (intro w hSw; (try dsimp only at hSw); go_simp; all_goals with_reducible rfl)
      try simp only [Act.put, sA, sB, sC]
      refine wpAnyH_ready (rs := [10]) (by kernel_rfl) (by simp) ?_
      refine AllReadyH.cons rfl (fun K hK => ?_) (AllReadyH.nil)
      obtain ⟨q0, q1, q2, qf, ql, qg⟩ := HN4.out
      have k8 := HK5.out _ hT4
      have nw : w.heap.size ≠ bx := by omega
      have nw2 : bx ≠ w.heap.size := by omega
      go_simp
      go_wp2_with fail
      refine hK.out _ _ (by simp [go_sem, World.cell?_alloc_past, *]) (fun hHeld => ?_)
      clear hK K
      try simp only [Act.put, sA, sB, sC]
      refine tkH 11 ⟨some 6, _, _, _, _, _⟩ ?_ rfl ?_ (by assumption) ?_
      rotate_left
      · (intro w hSw; (try dsimp only at hSw); go_simp; all_goals with_reducible rfl)
      try simp only [Act.put, sA, sB, sC]
      refine wpAnyH_done (by kernel_rfl) ?_ _
      go_wp2_with fail
      go_meet
      exact ⟨bx, rfl, rfl, qg, by simp; omega, by simp [go_sem, *], by simp [go_sem, *], by simp [go_sem, *], (by (repeat (first | (with_reducible refine Below.drew ?_) | (with_reducible refine below_drewN ?_ _) | (with_reducible refine Below.alloc ?_ (by first | omega | (simp; done) | (simp; omega) | (simp at *; omega)) _) | (with_reducible refine Below.setCell ?_ (by first | omega | (simp; done) | (simp; omega) | (simp at *; omega)) _) | (with_reducible exact Below.refl _ _) | (with_reducible assumption) | (with_reducible refine Below.trans ?_ (Below.mono (by assumption) (by first | omega | (simp; done) | (simp; omega) | (simp at *; omega)))))))⟩
  case rest =>
    obtain ⟨b5, rfl, rfl, g5, l5, y0, y1, y2, hBc⟩ := hcut
    have hcu : Below u.heap.size u wc := hB2.trans (hBc.mono hB2.size)
    have HT : Hid (LwT s0 s1 s2 s3 s4 s5 s6 s7 m a b 0 0 0 b5 w wc) := Lib.hid ⟨HS.out _ hcu, y0, y1, y2, l5⟩
    have HA2 : Hid (∀ y, Below wc.heap.size wc y → SlRows wiV 3 y A L) := Lib.hid fun y hy => HA.out _ (hcu.trans (hy.mono hcu.size))
    clear hB2 zz2 zu2 hc2 c0 c1 c2 c3 c4 c5 c6 c7 c8 c9 c10 hBe hlt HS HA HU hcu hBc g5 l5 y0 y1 y2 HK5 HA5 hw5
    have HA : Hid (∀ y, Below wc.heap.size wc y → SlRows wiV 3 y A L) := HA2
    clear HA2
    have HS : Hid (∀ y, Below wc.heap.size wc y → LwT s0 s1 s2 s3 s4 s5 s6 s7 m a b 0 0 0 b5 w y) := Lib.hid fun y hy => HT.out.below hy
    go_upto_region 6 with (fail)
    have HW6 : Hid (∀ y, Below wc.heap.size wc y → LwS s0 s1 s2 s3 s4 s5 s6 s7 m a b w y) := Lib.hid fun y hy => (HS.out _ hy).ls
    refine wp_region_held_drew (S := (fun w' => w'.cell? ⟨w.heap.size, 0, none⟩ = some (.int .i64 s0) ∧ w'.cell? ⟨w.heap.size, 1, none⟩ = some (.int .i64 s1) ∧ w'.cell? ⟨w.heap.size, 2, none⟩ = some (.int .i64 s2) ∧ w'.cell? ⟨w.heap.size, 3, none⟩ = some (.int .i64 s3) ∧ w'.cell? ⟨w.heap.size, 4, none⟩ = some (.int .i64 s4) ∧ w'.cell? ⟨w.heap.size, 5, none⟩ = some (.int .i64 s5) ∧ w'.cell? ⟨w.heap.size, 6, none⟩ = some (.int .i64 s6) ∧ w'.cell? ⟨w.heap.size, 7, none⟩ = some (.int .i64 s7) ∧ w'.cell? ⟨w.heap.size, 9, none⟩ = some (.int .i64 a) ∧ w'.cell? ⟨w.heap.size, 10, none⟩ = some (.int .i64 b))) (by kernel_rfl) (by exact (let h := HW6.out _ (Below.refl _ _).drew; ⟨h.c0, h.c1, h.c2, h.c3, h.c4, h.c5, h.c6, h.c7, h.c9, h.c10⟩)) (fun hHeld => ?_)
    have hT0 : Below wc.heap.size wc wc.drew := (Below.refl _ _).drew
    generalize hdr : wc.drew = v0 at *
    clear hdr
    refine tkH 0 ⟨some 45, _, _, _, _, _⟩ ?_ rfl ?_ (by assumption) ?_
    rotate_left
    · (intro w hSw; (try dsimp only at hSw); go_simp; all_goals with_reducible rfl)
    try simp only [Act.put, sA, sB, sC]
    refine tkH 1 ⟨some 46, _, _, _, _, _⟩ ?_ rfl ?_ (by assumption) ?_
    rotate_left
    · (intro w hSw; (try dsimp only at hSw); go_simp; all_goals with_reducible rfl)
    try simp only [Act.put, sA, sB, sC]
    refine tkH 3 ⟨some 48, _, _, _, _, _⟩ ?_ rfl ?_ (by assumption) ?_
    rotate_left
    · (intro w hSw; (try dsimp only at hSw); go_simp; all_goals with_reducible rfl)
    try simp only [Act.put, sA, sB, sC]
    refine tkH 5 ⟨some 50, _, _, _, _, _⟩ ?_ rfl ?_ (by assumption) ?_
    rotate_left
    · (intro w hSw; (try dsimp only at hSw); go_simp; all_goals with_reducible rfl)
    try simp only [Act.put, sA, sB, sC]
    refine tkH 6 ⟨some 51, _, _, _, _, _⟩ ?_ rfl ?_ (by assumption) ?_
    rotate_left
    · (intro w hSw; (try dsimp only at hSw); go_simp; all_goals with_reducible rfl)
    try simp only [Act.put, sA, sB, sC]
    refine wpAnyH_ready (rs := [2]) (by kernel_rfl) (by simp) ?_
    refine AllReadyH.cons rfl (fun K hK => ?_) (AllReadyH.nil)
    go_simp
    go_wp2_with fail
    refine hK.out _ _ (let h := HW6.out _ (hT0.alloc hT0.size _); ⟨h.c0, h.c1, h.c2, h.c3, h.c4, h.c5, h.c6, h.c7, h.c9, h.c10⟩) (fun hHeld => ?_)
    clear hK K
    try simp only [Act.put, sA, sB, sC]
    obtain ⟨bz, ebz⟩ : ∃ x, v0.heap.size = x := ⟨_, rfl⟩
    generalize hq0 : v0.alloc (.cells #[] 63) = v1
    have hb0 : Below v0.heap.size v0 v1 := by rw [← hq0]; exact (Below.refl _ _).alloc (Nat.le_refl _) _
    have hT1 : Below wc.heap.size wc v1 := hT0.trans (hb0.mono hT0.size)
    have HE1 : Hid (v1.ownsRow wc.heap.size 63 3 (.slice (some ⟨bz, 0, none⟩) 0 0) 0 []) := Lib.hid (own_emptyS (by rw [← ebz]; exact hT0.size) (by rw [← hq0, ← ebz]; exact allocF_at _ _))
    rw [ebz]
    clear hq0 hb0
    refine wpAnyH_ready (rs := [4]) (by kernel_rfl) (by simp) ?_
    refine AllReadyH.cons rfl (fun K hK => ?_) (AllReadyH.nil)
    rw [if_pos (by kernel_rfl)]
    have HX1 := Lib.hid (wi_src (HA.out _ hT1))
    refine oper_append_sl _ _ 56 rfl wc.heap.size 63 i0 (.agg #[.int .i64 0, .int .i64 0, .int .i64 0]) 3 24 Tryz.underlying56 HI.out HZ0.out HZ1.out HZ2.out rfl (by decide) _ 0 [] rfl HE1.out A n cap (rowsV wiV L) rfl CA.out HLLA.out HX1.out (rows_one wiV_one L) ?d1 ?d2 hT1.size ?_
    case d1 => unfold maxLen; omega
    case d2 => omega
    intro r1 v2 hown hgrow hblk
    try simp only [Nat.zero_add, List.nil_append] at hown
    have hT2 : Below wc.heap.size wc v2 := hT1.grown hgrow hT1.size (fun r hr => (own_block HE1.out r hr).1)
    obtain ⟨G6, cg6, hv6, hS6, _, _, _, _⟩ := SlRows_own (f := wiV) (n := 3) (L := L) (fun _ => rfl) (by rw [← hn.out]; exact hown)
    rw [← hn.out] at hv6
    subst hv6
    have HG6 := Lib.hid hS6
    clear hown hgrow hblk hS6
    refine hK.out _ _ (let h := HW6.out _ hT2; ⟨h.c0, h.c1, h.c2, h.c3, h.c4, h.c5, h.c6, h.c7, h.c9, h.c10⟩) (fun hHeld => ?_)
    clear hK K
    try simp only [Act.put, sA, sB, sC]
    refine wpAnyH_ready (rs := [7]) (by kernel_rfl) (by simp) ?_
    refine AllReadyH.cons rfl (fun K hK => ?_) (AllReadyH.nil)
    go_simp
    have hTv : Below wc.heap.size wc v2 := hT2
    refine (CalmWindows_bad L G6 n cg6 M s0 s1 s2 s3 s4 s5 s6 s7 a b P _ hM hn (by omega) HG6 hCE (hzP)).mono ?_
    rintro e x3 ⟨rfl, hb3⟩
    have hc3 : Below v2.heap.size v2 x3 := hb3
    have hB3 : Below wc.heap.size wc x3 := hTv.trans (hc3.mono hTv.size)
    have zu3 := hB3.size
    go_wp2_with fail
    refine hK.out _ _ (let h := HW6.out _ hB3; ⟨h.c0, h.c1, h.c2, h.c3, h.c4, h.c5, h.c6, h.c7, h.c9, h.c10⟩) (fun hHeld => ?_)
    clear hK K
    try simp only [Act.put, sA, sB, sC]
    refine tkH 8 ⟨some 44, _, _, _, _, _⟩ ?_ rfl ?_ (by assumption) ?_
    rotate_left
    · (intro w hSw; (try dsimp only at hSw); go_simp; all_goals with_reducible rfl)
    try simp only [Act.put, sA, sB, sC]
    refine tkH 9 ⟨some 53, _, _, _, _, _⟩ ?_ rfl ?_ (by assumption) ?_
    rotate_left
    · (intro w hSw; (try dsimp only at hSw); go_simp; all_goals with_reducible rfl)
    try simp only [Act.put, sA, sB, sC]
    refine tkH 10 ⟨some 54, _, _, _, _, _⟩ ?_ rfl ?_ (by assumption) ?_
    rotate_left
    · (intro w hSw; (try dsimp only at hSw); go_simp; all_goals with_reducible rfl)
    try simp only [Act.put, sA, sB, sC]
    refine tkH 11 ⟨some 7, _, _, _, _, _⟩ ?_ rfl ?_ (by assumption) ?_
    rotate_left
    · (intro w hSw; (try dsimp only at hSw); go_simp; all_goals with_reducible rfl)
    try simp only [Act.put, sA, sB, sC]
    refine tkH 12 ⟨some 8, _, _, _, _, _⟩ ?_ rfl ?_ (by assumption) ?_
    rotate_left
    · (intro w hSw; (try dsimp only at hSw); go_simp; all_goals with_reducible rfl)
    try simp only [Act.put, sA, sB, sC]
    refine wpAnyH_done (by kernel_rfl) ?_ _
    clear hb3 hTv hT0 
    obtain ⟨⟨c0, c1, c2, c3, c4, c5, c6, c7, c8, c9, c10, hBe, hlt⟩, y0, y1, y2, l5⟩ := HS.out _ hB3
    go_wp2_with fail
    refine (refWinds_is L A cap n 0 _ hn (by omega) (HA.out _ (by (repeat (first | (with_reducible refine Below.drew ?_) | (with_reducible refine below_drewN ?_ _) | (with_reducible refine Below.alloc ?_ (by first | omega | (simp; done) | (simp; omega) | (simp at *; omega)) _) | (with_reducible refine Below.setCell ?_ (by first | omega | (simp; done) | (simp; omega) | (simp at *; omega)) _) | (with_reducible exact Below.refl _ _) | (with_reducible assumption) | (with_reducible refine Below.trans ?_ (Below.mono (by assumption) (by first | omega | (simp; done) | (simp; omega) | (simp at *; omega)))))))) hD).mono ?_
    rintro e x4 ⟨rfl, hb4⟩
    have zz4 := hb4.size
    try simp at zz4
    have hc4 : Below x3.heap.size x3 x4 := (by (repeat (first | (with_reducible refine Below.drew ?_) | (with_reducible refine below_drewN ?_ _) | (with_reducible refine Below.alloc ?_ (by first | omega | (simp; done) | (simp; omega) | (simp at *; omega)) _) | (with_reducible refine Below.setCell ?_ (by first | omega | (simp; done) | (simp; omega) | (simp at *; omega)) _) | (with_reducible exact Below.refl _ _) | (with_reducible assumption) | (with_reducible refine Below.trans ?_ (Below.mono (by assumption) (by first | omega | (simp; done) | (simp; omega) | (simp at *; omega)))))))
    have hB4 : Below wc.heap.size wc x4 := hB3.trans (hc4.mono hB3.size)
    have zu4 := hB4.size
    clear hb4 hB3 zu3 hc3 c0 c1 c2 c3 c4 c5 c6 c7 c8 c9 c10 hBe hlt y0 y1 y2 l5
    obtain ⟨⟨c0, c1, c2, c3, c4, c5, c6, c7, c8, c9, c10, hBe, hlt⟩, y0, y1, y2, l5⟩ := HS.out _ hB4
    go_upto_region 8 with (fail)
    have HO8 := Lib.hid (World.ownsRow_made (base := x4.heap.size) (e := 63) (size := 3) x4 #[] 0 (Nat.le_refl _) (by simp) (by simp))
    have HX8 := Lib.hid (wi_src (HA.out _ (hB4.trans ((Below.alloc (Below.refl _ x4) (Nat.le_refl _) (.cells #[] 63)).mono hB4.size))))
    go_wp2_with (at_builtin; refine wpList_append_sl rfl _ _ 56 rfl x4.heap.size 63 i0 (.agg #[.int .i64 0, .int .i64 0, .int .i64 0]) 3 24 Tryz.underlying56 HI.out HZ0.out HZ1.out HZ2.out rfl (by decide) _ 0 [] rfl HO8.out A n cap (rowsV wiV L) rfl CA.out HLLA.out HX8.out (rows_one wiV_one L) ?e1 ?e2 ?e3 ?_)
    case e1 => unfold maxLen; omega
    case e2 => omega
    case e3 => simp
    intro r8 v8 hown hgrow hblk
    have hb8 : Below x4.heap.size x4 v8 := ((Below.refl x4.heap.size x4).alloc (Nat.le_refl _) _).grown hgrow (by simp) (by intro k hk; simp [Value.ownBlock] at hk; omega)
    try simp only [Nat.zero_add, List.nil_append] at hown
    obtain ⟨G8, cg8, hv8, hS8, _, _, _, _⟩ := SlRows_own (f := wiV) (n := 3) (L := L) (fun _ => rfl) (by rw [← hn.out]; exact hown)
    rw [← hn.out] at hv8
    subst hv8
    have HG8 := Lib.hid hS8
    clear hown hgrow hblk hS8 HO8 HX8
    go_wp2_with fail
    refine (CheckWinds_is L G8 cg8 n 0 _ hn (by omega) HG8.out hD).mono ?_
    rintro e x5 ⟨rfl, hb5⟩
    have hc5 : Below x4.heap.size x4 x5 := hb8.trans (hb5.mono hb8.size)
    have hB5 : Below wc.heap.size wc x5 := hB4.trans (hc5.mono hB4.size)
    have zu5 := hB5.size
    clear hb5 hb8 hB4 zz4 zu4 hc4 c0 c1 c2 c3 c4 c5 c6 c7 c8 c9 c10 hBe hlt y0 y1 y2 l5
    obtain ⟨⟨c0, c1, c2, c3, c4, c5, c6, c7, c8, c9, c10, hBe, hlt⟩, y0, y1, y2, l5⟩ := HS.out _ hB5
    go_wp2_with fail
    refine (refShel_is M s0 s1 s2 s3 s4 s5 s6 s7 0 _ hM hS).mono ?_
    rintro e x6 ⟨rfl, hb6⟩
    have zz6 := hb6.size
    try simp at zz6
    have hc6 : Below x5.heap.size x5 x6 := (by (repeat (first | (with_reducible refine Below.drew ?_) | (with_reducible refine below_drewN ?_ _) | (with_reducible refine Below.alloc ?_ (by first | omega | (simp; done) | (simp; omega) | (simp at *; omega)) _) | (with_reducible refine Below.setCell ?_ (by first | omega | (simp; done) | (simp; omega) | (simp at *; omega)) _) | (with_reducible exact Below.refl _ _) | (with_reducible assumption) | (with_reducible refine Below.trans ?_ (Below.mono (by assumption) (by first | omega | (simp; done) | (simp; omega) | (simp at *; omega)))))))
    have hB6 : Below wc.heap.size wc x6 := hB5.trans (hc6.mono hB5.size)
    have zu6 := hB6.size
    clear hb6 hB5 zu5 hc5 c0 c1 c2 c3 c4 c5 c6 c7 c8 c9 c10 hBe hlt y0 y1 y2 l5
    obtain ⟨⟨c0, c1, c2, c3, c4, c5, c6, c7, c8, c9, c10, hBe, hlt⟩, y0, y1, y2, l5⟩ := HS.out _ hB6
    go_wp2_with fail
    refine (isMin_is m true _ hM0).mono ?_
    rintro e w' ⟨rfl, rfl⟩
    go_wp2_with fail
    refine (refSpan_is a b P _ hP).mono ?_
    rintro e x7 ⟨rfl, hb7⟩
    have zz7 := hb7.size
    try simp at zz7
    have hc7 : Below x6.heap.size x6 x7 := (by (repeat (first | (with_reducible refine Below.drew ?_) | (with_reducible refine below_drewN ?_ _) | (with_reducible refine Below.alloc ?_ (by first | omega | (simp; done) | (simp; omega) | (simp at *; omega)) _) | (with_reducible refine Below.setCell ?_ (by first | omega | (simp; done) | (simp; omega) | (simp at *; omega)) _) | (with_reducible exact Below.refl _ _) | (with_reducible assumption) | (with_reducible refine Below.trans ?_ (Below.mono (by assumption) (by first | omega | (simp; done) | (simp; omega) | (simp at *; omega)))))))
    have hB7 : Below wc.heap.size wc x7 := hB6.trans (hc7.mono hB6.size)
    have zu7 := hB7.size
    clear hb7 hB6 zz6 zu6 hc6 c0 c1 c2 c3 c4 c5 c6 c7 c8 c9 c10 hBe hlt y0 y1 y2 l5
    obtain ⟨⟨c0, c1, c2, c3, c4, c5, c6, c7, c8, c9, c10, hBe, hlt⟩, y0, y1, y2, l5⟩ := HS.out _ hB7
    go_wp2_with fail
    refine (refWat_is L A n cap m ⟨0, 0, 0⟩ false _ hn n0 (by omega) (Lib.hid (HA.out _ (by (repeat (first | (with_reducible refine Below.drew ?_) | (with_reducible refine below_drewN ?_ _) | (with_reducible refine Below.alloc ?_ (by first | omega | (simp; done) | (simp; omega) | (simp at *; omega)) _) | (with_reducible refine Below.setCell ?_ (by first | omega | (simp; done) | (simp; omega) | (simp at *; omega)) _) | (with_reducible exact Below.refl _ _) | (with_reducible assumption) | (with_reducible refine Below.trans ?_ (Below.mono (by assumption) (by first | omega | (simp; done) | (simp; omega) | (simp at *; omega))))))))) hs hx hp9).mono ?_
    rintro e x8 ⟨rfl, hb8⟩
    have zz8 := hb8.size
    try simp at zz8
    have hc8 : Below x7.heap.size x7 x8 := (by (repeat (first | (with_reducible refine Below.drew ?_) | (with_reducible refine below_drewN ?_ _) | (with_reducible refine Below.alloc ?_ (by first | omega | (simp; done) | (simp; omega) | (simp at *; omega)) _) | (with_reducible refine Below.setCell ?_ (by first | omega | (simp; done) | (simp; omega) | (simp at *; omega)) _) | (with_reducible exact Below.refl _ _) | (with_reducible assumption) | (with_reducible refine Below.trans ?_ (Below.mono (by assumption) (by first | omega | (simp; done) | (simp; omega) | (simp at *; omega)))))))
    have hB8 : Below wc.heap.size wc x8 := hB7.trans (hc8.mono hB7.size)
    have zu8 := hB8.size
    clear hb8 hB7 zz7 zu7 hc7 c0 c1 c2 c3 c4 c5 c6 c7 c8 c9 c10 hBe hlt y0 y1 y2 l5
    obtain ⟨⟨c0, c1, c2, c3, c4, c5, c6, c7, c8, c9, c10, hBe, hlt⟩, y0, y1, y2, l5⟩ := HS.out _ hB8
    go_wp2
    go_ret
    exact ⟨rfl, (by (repeat (first | (with_reducible refine Below.drew ?_) | (with_reducible refine below_drewN ?_ _) | (with_reducible refine Below.alloc ?_ (by first | omega | (simp; done) | (simp; omega) | (simp at *; omega)) _) | (with_reducible refine Below.setCell ?_ (by first | omega | (simp; done) | (simp; omega) | (simp at *; omega)) _) | (with_reducible exact Below.refl _ _) | (with_reducible assumption) | (with_reducible refine Below.trans ?_ (Below.mono (by assumption) (by first | omega | (simp; done) | (simp; omega) | (simp at *; omega)))))))⟩
set_option maxRecDepth 100000 in
set_option maxHeartbeats 8000000 in
theorem wnd_8 (s0 s1 s2 s3 s4 s5 s6 s7 m a b : Int) (M : List Int) (L : List Wi) (A : Option Addr) (n cap : Nat) (w : World) (hM : Hid (M = [s0, s1, s2, s3, s4, s5, s6, s7])) (hn : Hid (n = L.length)) (HR : Hid (∀ w' : World, Below w.heap.size w w' → SlRows wiV 3 w' A L)) (CA : Hid (A = none → n = 0 ∧ cap = 0)) (hl : n ≤ 12) (hD : Hid (wndE L = 0)) (hS : Hid (shE M = 0)) (hP : Hid (spnE a b = 0)) (hBr : Hid (((0 : Int) != 0 || decide (b - a < 200)) = true)) (hM0 : Hid (inB m 0 1000000 = true)) (ht : begU L m n = 0) :
    Calls Tryz.prog 6 #[.slice A n cap, .agg #[.int .i64 s0, .int .i64 s1, .int .i64 s2, .int .i64 s3, .int .i64 s4, .int .i64 s5, .int .i64 s6, .int .i64 s7, .int .i64 m, .int .i64 a, .int .i64 b]] w fun e w' => e = .returned (.bool true) ∧ Below w.heap.size w w' := by
  obtain ⟨i0, hi, hz0', hz1', hz2'⟩ := info_partsS infoWi
  have HI := Lib.hid hi
  have HZ0 := Lib.hid hz0'
  have HZ1 := Lib.hid hz1'
  have HZ2 := Lib.hid hz2'
  have HLLA := Lib.hid (rowsV_len (f := wiV) (n := 3) (fun _ => rfl) L)
  rw [← hn.out] at HLLA
  clear hi hz0' hz1' hz2'
  have i12 : ¬ (12 : Int) < (n : Int) := by omega
  have i62 : ¬ (62 : Int) < (n : Int) := by omega
  have hG : Hid (rngE m 0 1000000 = 0) := Lib.hid (rngE_t hM0.out)
  obtain ⟨n0', _, _, hs'⟩ := wndE_ok hD.out
  have hs := Lib.hid hs'
  have n0 : 0 < n := by rw [hn.out]; exact n0'
  clear n0' hs'
  have hx : Hid (atW L m n = ⟨0, 0, 0⟩) := Lib.hid (by unfold atW; rw [if_pos ht])
  have hE9 : Hid (atE L m n = 19) := Lib.hid (by unfold atE; rw [if_pos ht])
  have hp9 : Hid (decide (begU L m n ≠ 0) = false) := Lib.hid (by rw [ht]; rfl)
  clear ht
  have hCE : Hid (calE M L a b = 0) := Lib.hid (by unfold calE firE firE firE firE; rw [hS.out, hD.out, hP.out]; rfl)
  obtain ⟨a0, ab, b1, hs3⟩ := spnE_ok hP.out
  obtain ⟨N, hN⟩ : ∃ N : Nat, Hid ((N : Int) = b - a + 1) := ⟨(b - a + 1).toNat, Lib.hid (by omega)⟩
  obtain ⟨V, hV⟩ : ∃ V, Hid (rwL a (fun k => calG M L n (a + (k : Int))) N = V) := ⟨_, Lib.hid rfl⟩
  have hVn : V.length ≤ 12 := by rw [← hV.out]; exact Nat.le_trans (calm_few M L n a N) hl
  go_enter Tryz.func6, Tryz.ntmps6
  go_upto_region 1 with (fail)
  refine wp_world (LwS s0 s1 s2 s3 s4 s5 s6 s7 m a b w) ⟨by simp [go_sem, World.cell?_alloc_past], by simp [go_sem, World.cell?_alloc_past], by simp [go_sem, World.cell?_alloc_past], by simp [go_sem, World.cell?_alloc_past], by simp [go_sem, World.cell?_alloc_past], by simp [go_sem, World.cell?_alloc_past], by simp [go_sem, World.cell?_alloc_past], by simp [go_sem, World.cell?_alloc_past], by simp [go_sem, World.cell?_alloc_past], by simp [go_sem, World.cell?_alloc_past], by simp [go_sem, World.cell?_alloc_past], (by (repeat (first | (with_reducible refine Below.drew ?_) | (with_reducible refine below_drewN ?_ _) | (with_reducible refine Below.alloc ?_ (by first | omega | (simp; done) | (simp; omega) | (simp at *; omega)) _) | (with_reducible refine Below.setCell ?_ (by first | omega | (simp; done) | (simp; omega) | (simp at *; omega)) _) | (with_reducible exact Below.refl _ _) | (with_reducible assumption) | (with_reducible refine Below.trans ?_ (Below.mono (by assumption) (by first | omega | (simp; done) | (simp; omega) | (simp at *; omega))))))), by simp⟩ (fun u hu => ?_)
  have HU := Lib.hid hu
  have HS : Hid (∀ x, Below u.heap.size u x → LwS s0 s1 s2 s3 s4 s5 s6 s7 m a b w x) := Lib.hid fun x hx => HU.out.below hx
  have HA : Hid (∀ x, Below u.heap.size u x → SlRows wiV 3 x A L) := Lib.hid fun x hx => HR.out _ (HU.out.below hx).be
  clear hu
  go_wp2_with fail
  refine (awake_any _).mono ?_
  rintro e x1 ⟨rfl, hb1⟩
  have zz1 := hb1.size
  try simp at zz1
  have hc1 : Below u.heap.size u x1 := (by (repeat (first | (with_reducible refine Below.drew ?_) | (with_reducible refine below_drewN ?_ _) | (with_reducible refine Below.alloc ?_ (by first | omega | (simp; done) | (simp; omega) | (simp at *; omega)) _) | (with_reducible refine Below.setCell ?_ (by first | omega | (simp; done) | (simp; omega) | (simp at *; omega)) _) | (with_reducible exact Below.refl _ _) | (with_reducible assumption) | (with_reducible refine Below.trans ?_ (Below.mono (by assumption) (by first | omega | (simp; done) | (simp; omega) | (simp at *; omega)))))))
  have hB1 : Below u.heap.size u x1 := hc1
  have zu1 := hB1.size
  clear hb1 
  obtain ⟨c0, c1, c2, c3, c4, c5, c6, c7, c8, c9, c10, hBe, hlt⟩ := HS.out _ hB1
  go_wp2_with fail
  refine (brief_is a b 0 true _ hP hBr).mono ?_
  rintro e x2 ⟨rfl, hb2⟩
  have zz2 := hb2.size
  try simp at zz2
  have hc2 : Below x1.heap.size x1 x2 := (by (repeat (first | (with_reducible refine Below.drew ?_) | (with_reducible refine below_drewN ?_ _) | (with_reducible refine Below.alloc ?_ (by first | omega | (simp; done) | (simp; omega) | (simp at *; omega)) _) | (with_reducible refine Below.setCell ?_ (by first | omega | (simp; done) | (simp; omega) | (simp at *; omega)) _) | (with_reducible exact Below.refl _ _) | (with_reducible assumption) | (with_reducible refine Below.trans ?_ (Below.mono (by assumption) (by first | omega | (simp; done) | (simp; omega) | (simp at *; omega)))))))
  have hB2 : Below u.heap.size u x2 := hB1.trans (hc2.mono hB1.size)
  have zu2 := hB2.size
  clear hb2 hB1 zz1 zu1 hc1 c0 c1 c2 c3 c4 c5 c6 c7 c8 c9 c10 hBe hlt
  obtain ⟨c0, c1, c2, c3, c4, c5, c6, c7, c8, c9, c10, hBe, hlt⟩ := HS.out _ hB2
  go_upto_region 5 with (fail)
  have HK5 : Hid (∀ y, Below x2.heap.size x2 y → y.cell? ⟨w.heap.size, 8, none⟩ = some (.int .i64 m)) := Lib.hid fun y hy => (HS.out _ (hB2.trans (hy.mono hB2.size))).c8
  have HA5 : Hid (∀ y, Below x2.heap.size x2 y → SlRows wiV 3 y A L) := Lib.hid fun y hy => HA.out _ (hB2.trans (hy.mono hB2.size))
  have hw5 : w.heap.size < x2.heap.size := hlt
  go_cut [5, 6] from 7 (fun s5 s6 wx => WtR 0 0 0 19 x2 s5 s6 wx)
  case first =>
    clear c0 c1 c2 c3 c4 c5 c6 c7 c8 c9 c10 hBe hlt HS HA HU
    refine wp_region_held_drew (S := (fun w' => w'.cell? ⟨w.heap.size, 8, none⟩ = some (.int .i64 m))) (by kernel_rfl) (by exact HK5.out _ (Below.refl _ _).drew) (fun hHeld => ?_)
    have hT0 : Below x2.heap.size x2 x2.drew := (Below.refl _ _).drew
    generalize hdr : x2.drew = v0 at *
    clear hdr
    refine tkH 1 ⟨some 37, _, _, _, _, _⟩ ?_ rfl ?_ (by assumption) ?_
    rotate_left
    · (intro w hSw; (try dsimp only at hSw); go_simp; all_goals with_reducible rfl)
    try simp only [Act.put, sA, sB, sC]
    refine tkH 3 ⟨some 39, _, _, _, _, _⟩ ?_ rfl ?_ (by assumption) ?_
    rotate_left
    · (intro w hSw; (try dsimp only at hSw); go_simp; all_goals with_reducible rfl)
    try simp only [Act.put, sA, sB, sC]
    refine tkH 4 ⟨some 40, _, _, _, _, _⟩ ?_ rfl ?_ (by assumption) ?_
    rotate_left
    · (intro w hSw; (try dsimp only at hSw); go_simp; all_goals with_reducible rfl)
    try simp only [Act.put, sA, sB, sC]
    refine wpAnyH_ready (rs := [0, 9]) (by kernel_rfl) (by simp) ?_
    refine AllReadyH.cons rfl (fun K hK => ?_) (AllReadyH.cons rfl (fun K hK => ?_) (AllReadyH.nil))
    · skip
      go_simp
      go_wp2_with fail
      refine hK.out _ _ (HK5.out _ (hT0.alloc hT0.size _)) (fun hHeld => ?_)
      clear hK K
      try simp only [Act.put, sA, sB, sC]
      obtain ⟨bz, ebz⟩ : ∃ x, v0.heap.size = x := ⟨_, rfl⟩
      generalize hq0 : v0.alloc (.cells #[] 63) = v1
      have hb0 : Below v0.heap.size v0 v1 := by rw [← hq0]; exact (Below.refl _ _).alloc (Nat.le_refl _) _
      have hT1 : Below x2.heap.size x2 v1 := hT0.trans (hb0.mono hT0.size)
      have HE1 : Hid (v1.ownsRow x2.heap.size 63 3 (.slice (some ⟨bz, 0, none⟩) 0 0) 0 []) := Lib.hid (own_emptyS (by rw [← ebz]; exact hT0.size) (by rw [← hq0, ← ebz]; exact allocF_at _ _))
      rw [ebz]
      clear hq0 hb0
      refine wpAnyH_ready (rs := [2, 9]) (by kernel_rfl) (by simp) ?_
      refine AllReadyH.cons rfl (fun K hK => ?_) (AllReadyH.cons rfl (fun K hK => ?_) (AllReadyH.nil))
      · skip
        rw [if_pos (by kernel_rfl)]
        have HX1 := Lib.hid (wi_src (HA5.out _ hT1))
        refine oper_append_sl _ _ 56 rfl x2.heap.size 63 i0 (.agg #[.int .i64 0, .int .i64 0, .int .i64 0]) 3 24 Tryz.underlying56 HI.out HZ0.out HZ1.out HZ2.out rfl (by decide) _ 0 [] rfl HE1.out A n cap (rowsV wiV L) rfl CA.out HLLA.out HX1.out (rows_one wiV_one L) ?d1 ?d2 hT1.size ?_
        case d1 => unfold maxLen; omega
        case d2 => omega
        intro r1 v2 hown hgrow hblk
        try simp only [Nat.zero_add, List.nil_append] at hown
        have hT2 : Below x2.heap.size x2 v2 := hT1.grown hgrow hT1.size (fun r hr => (own_block HE1.out r hr).1)
        obtain ⟨G1, cg1, hv1, hS1, _, _, _, _⟩ := SlRows_own (f := wiV) (n := 3) (L := L) (fun _ => rfl) (by rw [← hn.out]; exact hown)
        rw [← hn.out] at hv1
        subst hv1
        have HG2 := Lib.hid hS1
        clear hown hgrow hblk hS1
        refine hK.out _ _ (HK5.out _ hT2) (fun hHeld => ?_)
        clear hK K
        try simp only [Act.put, sA, sB, sC]
        refine wpAnyH_ready (rs := [5, 9]) (by kernel_rfl) (by simp) ?_
        refine AllReadyH.cons rfl (fun K hK => ?_) (AllReadyH.cons rfl (fun K hK => ?_) (AllReadyH.nil))
        · skip
          go_simp
          refine (WindAt_ok L G1 n cg1 m ⟨0, 0, 0⟩ 19 _ hn (by omega) HG2 hD hG hx hE9).mono ?_
          rintro e v3 ⟨rfl, hb2⟩
          have hT3 : Below x2.heap.size x2 v3 := hT2.trans (hb2.mono hT2.size)
          clear hb2
          go_wp2_with fail
          refine hK.out _ _ (HK5.out _ hT3) (fun hHeld => ?_)
          clear hK K
          try simp only [Act.put, sA, sB, sC]
          refine tkH 6 ⟨some 35, _, _, _, _, _⟩ ?_ rfl ?_ (by assumption) ?_
          rotate_left
          · (intro w hSw; (try dsimp only at hSw); go_simp; all_goals with_reducible rfl)
          try simp only [Act.put, sA, sB, sC]
          refine tkH 7 ⟨some 42, _, _, _, _, _⟩ ?_ rfl ?_ (by assumption) ?_
          rotate_left
          · (intro w hSw; (try dsimp only at hSw); go_simp; all_goals with_reducible rfl)
          try simp only [Act.put, sA, sB, sC]
          refine tkH 8 ⟨some 43, _, _, _, _, _⟩ ?_ rfl ?_ (by assumption) ?_
          rotate_left
          · (intro w hSw; (try dsimp only at hSw); go_simp; all_goals with_reducible rfl)
          try simp only [Act.put, sA, sB, sC]
          refine wpAnyH_ready (rs := [9]) (by kernel_rfl) (by simp) ?_
          refine AllReadyH.cons rfl (fun K hK => ?_) (AllReadyH.nil)
          go_simp
          go_wp2_with fail
          refine hK.out _ _ (HK5.out _ (hT3.alloc hT3.size _)) (fun hHeld => ?_)
          clear hK K
          try simp only [Act.put, sA, sB, sC]
          have NX4 := NwW.made x2.heap.size v3 hT3.size
          obtain ⟨bx, ebx⟩ : ∃ x, v3.heap.size = x := ⟨_, rfl⟩
          generalize hq3 : v3.alloc (.cells #[.int .i64 0, .int .i64 0, .int .i64 0] 63) = v4 at *
          have hb3 : Below v3.heap.size v3 v4 := by rw [← hq3]; exact (Below.refl _ _).alloc (Nat.le_refl _) _
          have hT4 : Below x2.heap.size x2 v4 := hT3.trans (hb3.mono hT3.size)
          rw [ebx] at NX4 ⊢
          have HN4 := Lib.hid NX4
          clear NX4 hq3 hb3
          refine wpAnyH_ready (rs := [10]) (by kernel_rfl) (by simp) ?_
          refine AllReadyH.cons rfl (fun K hK => ?_) (AllReadyH.nil)
          obtain ⟨q0, q1, q2, qf, ql, qg⟩ := HN4.out
          have k8 := HK5.out _ hT4
          have nw : w.heap.size ≠ bx := by omega
          have nw2 : bx ≠ w.heap.size := by omega
          go_simp
          go_wp2_with fail
          refine hK.out _ _ (by simp [go_sem, World.cell?_alloc_past, *]) (fun hHeld => ?_)
          clear hK K
          try simp only [Act.put, sA, sB, sC]
          refine tkH 11 ⟨some 6, _, _, _, _, _⟩ ?_ rfl ?_ (by assumption) ?_
          rotate_left
          · (intro w hSw; (try dsimp only at hSw); go_simp; all_goals with_reducible rfl)
          try simp only [Act.put, sA, sB, sC]
          refine wpAnyH_done (by kernel_rfl) ?_ _
          go_wp2_with fail
          go_meet
          exact ⟨bx, rfl, rfl, qg, by simp; omega, by simp [go_sem, *], by simp [go_sem, *], by simp [go_sem, *], (by (repeat (first | (with_reducible refine Below.drew ?_) | (with_reducible refine below_drewN ?_ _) | (with_reducible refine Below.alloc ?_ (by first | omega | (simp; done) | (simp; omega) | (simp at *; omega)) _) | (with_reducible refine Below.setCell ?_ (by first | omega | (simp; done) | (simp; omega) | (simp at *; omega)) _) | (with_reducible exact Below.refl _ _) | (with_reducible assumption) | (with_reducible refine Below.trans ?_ (Below.mono (by assumption) (by first | omega | (simp; done) | (simp; omega) | (simp at *; omega)))))))⟩
        · skip
          go_simp
          go_wp2_with fail
          refine hK.out _ _ (HK5.out _ (hT2.alloc hT2.size _)) (fun hHeld => ?_)
          clear hK K
          try simp only [Act.put, sA, sB, sC]
          have NX3 := NwW.made x2.heap.size v2 hT2.size
          obtain ⟨bx, ebx⟩ : ∃ x, v2.heap.size = x := ⟨_, rfl⟩
          generalize hq2 : v2.alloc (.cells #[.int .i64 0, .int .i64 0, .int .i64 0] 63) = v3 at *
          have hb2 : Below v2.heap.size v2 v3 := by rw [← hq2]; exact (Below.refl _ _).alloc (Nat.le_refl _) _
          have hT3 : Below x2.heap.size x2 v3 := hT2.trans (hb2.mono hT2.size)
          have HG3 := Lib.hid (HG2.out.below hb2)
          rw [ebx] at NX3 ⊢
          have HN3 := Lib.hid NX3
          clear NX3 hq2 hb2
          refine wpAnyH_ready (rs := [5]) (by kernel_rfl) (by simp) ?_
          refine AllReadyH.cons rfl (fun K hK => ?_) (AllReadyH.nil)
          go_simp
          refine (WindAt_ok L G1 n cg1 m ⟨0, 0, 0⟩ 19 _ hn (by omega) HG3 hD hG hx hE9).mono ?_
          rintro e v4 ⟨rfl, hb3⟩
          have hT4 : Below x2.heap.size x2 v4 := hT3.trans (hb3.mono hT3.size)
          have HN4 := Lib.hid (HN3.out.below hb3)
          clear hb3
          go_wp2_with fail
          refine hK.out _ _ (HK5.out _ hT4) (fun hHeld => ?_)
          clear hK K
          try simp only [Act.put, sA, sB, sC]
          refine tkH 6 ⟨some 35, _, _, _, _, _⟩ ?_ rfl ?_ (by assumption) ?_
          rotate_left
          · (intro w hSw; (try dsimp only at hSw); go_simp; all_goals with_reducible rfl)
          try simp only [Act.put, sA, sB, sC]
          refine tkH 7 ⟨some 42, _, _, _, _, _⟩ ?_ rfl ?_ (by assumption) ?_
          rotate_left
          · (intro w hSw; (try dsimp only at hSw); go_simp; all_goals with_reducible rfl)
          try simp only [Act.put, sA, sB, sC]
          refine tkH 8 ⟨some 43, _, _, _, _, _⟩ ?_ rfl ?_ (by assumption) ?_
          rotate_left
          · (intro w hSw; (try dsimp only at hSw); go_simp; all_goals with_reducible rfl)
          try simp only [Act.put, sA, sB, sC]
          refine wpAnyH_ready (rs := [10]) (by kernel_rfl) (by simp) ?_
          refine AllReadyH.cons rfl (fun K hK => ?_) (AllReadyH.nil)
          obtain ⟨q0, q1, q2, qf, ql, qg⟩ := HN4.out
          have k8 := HK5.out _ hT4
          have nw : w.heap.size ≠ bx := by omega
          have nw2 : bx ≠ w.heap.size := by omega
          go_simp
          go_wp2_with fail
          refine hK.out _ _ (by simp [go_sem, World.cell?_alloc_past, *]) (fun hHeld => ?_)
          clear hK K
          try simp only [Act.put, sA, sB, sC]
          refine tkH 11 ⟨some 6, _, _, _, _, _⟩ ?_ rfl ?_ (by assumption) ?_
          rotate_left
          · (intro w hSw; (try dsimp only at hSw); go_simp; all_goals with_reducible rfl)
          try simp only [Act.put, sA, sB, sC]
          refine wpAnyH_done (by kernel_rfl) ?_ _
          go_wp2_with fail
          go_meet
          exact ⟨bx, rfl, rfl, qg, by simp; omega, by simp [go_sem, *], by simp [go_sem, *], by simp [go_sem, *], (by (repeat (first | (with_reducible refine Below.drew ?_) | (with_reducible refine below_drewN ?_ _) | (with_reducible refine Below.alloc ?_ (by first | omega | (simp; done) | (simp; omega) | (simp at *; omega)) _) | (with_reducible refine Below.setCell ?_ (by first | omega | (simp; done) | (simp; omega) | (simp at *; omega)) _) | (with_reducible exact Below.refl _ _) | (with_reducible assumption) | (with_reducible refine Below.trans ?_ (Below.mono (by assumption) (by first | omega | (simp; done) | (simp; omega) | (simp at *; omega)))))))⟩
      · skip
        go_simp
        go_wp2_with fail
        refine hK.out _ _ (HK5.out _ (hT1.alloc hT1.size _)) (fun hHeld => ?_)
        clear hK K
        try simp only [Act.put, sA, sB, sC]
        have NX2 := NwW.made x2.heap.size v1 hT1.size
        obtain ⟨bx, ebx⟩ : ∃ x, v1.heap.size = x := ⟨_, rfl⟩
        generalize hq1 : v1.alloc (.cells #[.int .i64 0, .int .i64 0, .int .i64 0] 63) = v2 at *
        have hb1 : Below v1.heap.size v1 v2 := by rw [← hq1]; exact (Below.refl _ _).alloc (Nat.le_refl _) _
        have hT2 : Below x2.heap.size x2 v2 := hT1.trans (hb1.mono hT1.size)
        have nbz : bx ≠ bz := by have := (own_block HE1.out bz (by simp [Value.ownBlock])).2; omega
        have HE2 := Lib.hid (own_below HE1.out hb1 (Nat.le_refl _))
        rw [ebx] at NX2 ⊢
        have HN2 := Lib.hid NX2
        clear NX2 hq1 hb1
        refine wpAnyH_ready (rs := [2]) (by kernel_rfl) (by simp) ?_
        refine AllReadyH.cons rfl (fun K hK => ?_) (AllReadyH.nil)
        rw [if_pos (by kernel_rfl)]
        have HX2 := Lib.hid (wi_src (HA5.out _ hT2))
        refine oper_append_sl _ _ 56 rfl x2.heap.size 63 i0 (.agg #[.int .i64 0, .int .i64 0, .int .i64 0]) 3 24 Tryz.underlying56 HI.out HZ0.out HZ1.out HZ2.out rfl (by decide) _ 0 [] rfl HE2.out A n cap (rowsV wiV L) rfl CA.out HLLA.out HX2.out (rows_one wiV_one L) ?d1 ?d2 hT2.size ?_
        case d1 => unfold maxLen; omega
        case d2 => omega
        intro r2 v3 hown hgrow hblk
        try simp only [Nat.zero_add, List.nil_append] at hown
        have hT3 : Below x2.heap.size x2 v3 := hT2.grown hgrow hT2.size (fun r hr => (own_block HE2.out r hr).1)
        have HN3 := Lib.hid (HN2.out.grown (hgrow.block bx HN2.out.lt (fun hh => nbz (ob_some hh.symm))) hgrow.size)
        obtain ⟨G2, cg2, hv2, hS2, _, _, _, _⟩ := SlRows_own (f := wiV) (n := 3) (L := L) (fun _ => rfl) (by rw [← hn.out]; exact hown)
        rw [← hn.out] at hv2
        subst hv2
        have HG3 := Lib.hid hS2
        clear hown hgrow hblk hS2
        refine hK.out _ _ (HK5.out _ hT3) (fun hHeld => ?_)
        clear hK K
        try simp only [Act.put, sA, sB, sC]
        refine wpAnyH_ready (rs := [5]) (by kernel_rfl) (by simp) ?_
        refine AllReadyH.cons rfl (fun K hK => ?_) (AllReadyH.nil)
        go_simp
        refine (WindAt_ok L G2 n cg2 m ⟨0, 0, 0⟩ 19 _ hn (by omega) HG3 hD hG hx hE9).mono ?_
        rintro e v4 ⟨rfl, hb3⟩
        have hT4 : Below x2.heap.size x2 v4 := hT3.trans (hb3.mono hT3.size)
        have HN4 := Lib.hid (HN3.out.below hb3)
        clear hb3
        go_wp2_with fail
        refine hK.out _ _ (HK5.out _ hT4) (fun hHeld => ?_)
        clear hK K
        try simp only [Act.put, sA, sB, sC]
        refine tkH 6 ⟨some 35, _, _, _, _, _⟩ ?_ rfl ?_ (by assumption) ?_
        rotate_left
        · (intro w hSw; (try dsimp only at hSw); go_simp; all_goals with_reducible rfl)
        try simp only [Act.put, sA, sB, sC]
        refine tkH 7 ⟨some 42, _, _, _, _, _⟩ ?_ rfl ?_ (by assumption) ?_
        rotate_left
        · (intro w hSw; (try dsimp only at hSw); go_simp; all_goals with_reducible rfl)
        try simp only [Act.put, sA, sB, sC]
        refine tkH 8 ⟨some 43, _, _, _, _, _⟩ ?_ rfl ?_ (by assumption) ?_
        rotate_left
        · (intro w hSw; (try dsimp only at hSw); go_simp; all_goals with_reducible rfl)
        try simp only [Act.put, sA, sB, sC]
        refine wpAnyH_ready (rs := [10]) (by kernel_rfl) (by simp) ?_
        refine AllReadyH.cons rfl (fun K hK => ?_) (AllReadyH.nil)
        obtain ⟨q0, q1, q2, qf, ql, qg⟩ := HN4.out
        have k8 := HK5.out _ hT4
        have nw : w.heap.size ≠ bx := by omega
        have nw2 : bx ≠ w.heap.size := by omega
        go_simp
        go_wp2_with fail
        refine hK.out _ _ (by simp [go_sem, World.cell?_alloc_past, *]) (fun hHeld => ?_)
        clear hK K
        try simp only [Act.put, sA, sB, sC]
        refine tkH 11 ⟨some 6, _, _, _, _, _⟩ ?_ rfl ?_ (by assumption) ?_
        rotate_left
        · (intro w hSw; (try dsimp only at hSw); go_simp; all_goals with_reducible rfl)
        try simp only [Act.put, sA, sB, sC]
        refine wpAnyH_done (by kernel_rfl) ?_ _
        go_wp2_with fail
        go_meet
        exact ⟨bx, rfl, rfl, qg, by simp; omega, by simp [go_sem, *], by simp [go_sem, *], by simp [go_sem, *], (by (repeat (first | (with_reducible refine Below.drew ?_) | (with_reducible refine below_drewN ?_ _) | (with_reducible refine Below.alloc ?_ (by first | omega | (simp; done) | (simp; omega) | (simp at *; omega)) _) | (with_reducible refine Below.setCell ?_ (by first | omega | (simp; done) | (simp; omega) | (simp at *; omega)) _) | (with_reducible exact Below.refl _ _) | (with_reducible assumption) | (with_reducible refine Below.trans ?_ (Below.mono (by assumption) (by first | omega | (simp; done) | (simp; omega) | (simp at *; omega)))))))⟩
    · skip
      go_simp
      go_wp2_with fail
      refine hK.out _ _ (HK5.out _ (hT0.alloc hT0.size _)) (fun hHeld => ?_)
      clear hK K
      try simp only [Act.put, sA, sB, sC]
      have NX1 := NwW.made x2.heap.size v0 hT0.size
      obtain ⟨bx, ebx⟩ : ∃ x, v0.heap.size = x := ⟨_, rfl⟩
      generalize hq0 : v0.alloc (.cells #[.int .i64 0, .int .i64 0, .int .i64 0] 63) = v1 at *
      have hb0 : Below v0.heap.size v0 v1 := by rw [← hq0]; exact (Below.refl _ _).alloc (Nat.le_refl _) _
      have hT1 : Below x2.heap.size x2 v1 := hT0.trans (hb0.mono hT0.size)
      rw [ebx] at NX1 ⊢
      have HN1 := Lib.hid NX1
      clear NX1 hq0 hb0
      refine wpAnyH_ready (rs := [0]) (by kernel_rfl) (by simp) ?_
      refine AllReadyH.cons rfl (fun K hK => ?_) (AllReadyH.nil)
      go_simp
      go_wp2_with fail
      refine hK.out _ _ (HK5.out _ (hT1.alloc hT1.size _)) (fun hHeld => ?_)
      clear hK K
      try simp only [Act.put, sA, sB, sC]
      obtain ⟨bz, ebz⟩ : ∃ x, v1.heap.size = x := ⟨_, rfl⟩
      generalize hq1 : v1.alloc (.cells #[] 63) = v2
      have hb1 : Below v1.heap.size v1 v2 := by rw [← hq1]; exact (Below.refl _ _).alloc (Nat.le_refl _) _
      have hT2 : Below x2.heap.size x2 v2 := hT1.trans (hb1.mono hT1.size)
      have HE2 : Hid (v2.ownsRow x2.heap.size 63 3 (.slice (some ⟨bz, 0, none⟩) 0 0) 0 []) := Lib.hid (own_emptyS (by rw [← ebz]; exact hT1.size) (by rw [← hq1, ← ebz]; exact allocF_at _ _))
      have nbz : bx ≠ bz := by have := HN1.out.lt; omega
      have HN2 := Lib.hid (HN1.out.below hb1)
      rw [ebz]
      clear hq1 hb1
      refine wpAnyH_ready (rs := [2]) (by kernel_rfl) (by simp) ?_
      refine AllReadyH.cons rfl (fun K hK => ?_) (AllReadyH.nil)
      rw [if_pos (by kernel_rfl)]
      have HX2 := Lib.hid (wi_src (HA5.out _ hT2))
      refine oper_append_sl _ _ 56 rfl x2.heap.size 63 i0 (.agg #[.int .i64 0, .int .i64 0, .int .i64 0]) 3 24 Tryz.underlying56 HI.out HZ0.out HZ1.out HZ2.out rfl (by decide) _ 0 [] rfl HE2.out A n cap (rowsV wiV L) rfl CA.out HLLA.out HX2.out (rows_one wiV_one L) ?d1 ?d2 hT2.size ?_
      case d1 => unfold maxLen; omega
      case d2 => omega
      intro r2 v3 hown hgrow hblk
      try simp only [Nat.zero_add, List.nil_append] at hown
      have hT3 : Below x2.heap.size x2 v3 := hT2.grown hgrow hT2.size (fun r hr => (own_block HE2.out r hr).1)
      have HN3 := Lib.hid (HN2.out.grown (hgrow.block bx HN2.out.lt (fun hh => nbz (ob_some hh.symm))) hgrow.size)
      obtain ⟨G2, cg2, hv2, hS2, _, _, _, _⟩ := SlRows_own (f := wiV) (n := 3) (L := L) (fun _ => rfl) (by rw [← hn.out]; exact hown)
      rw [← hn.out] at hv2
      subst hv2
      have HG3 := Lib.hid hS2
      clear hown hgrow hblk hS2
      refine hK.out _ _ (HK5.out _ hT3) (fun hHeld => ?_)
      clear hK K
      try simp only [Act.put, sA, sB, sC]
      refine wpAnyH_ready (rs := [5]) (by kernel_rfl) (by simp) ?_
      refine AllReadyH.cons rfl (fun K hK => ?_) (AllReadyH.nil)
      go_simp
      refine (WindAt_ok L G2 n cg2 m ⟨0, 0, 0⟩ 19 _ hn (by omega) HG3 hD hG hx hE9).mono ?_
      rintro e v4 ⟨rfl, hb3⟩
      have hT4 : Below x2.heap.size x2 v4 := hT3.trans (hb3.mono hT3.size)
      have HN4 := Lib.hid (HN3.out.below hb3)
      clear hb3
      go_wp2_with fail
      refine hK.out _ _ (HK5.out _ hT4) (fun hHeld => ?_)
      clear hK K
      try simp only [Act.put, sA, sB, sC]
      refine tkH 6 ⟨some 35, _, _, _, _, _⟩ ?_ rfl ?_ (by assumption) ?_
      rotate_left
      · (intro w hSw; (try dsimp only at hSw); go_simp; all_goals with_reducible rfl)
      try simp only [Act.put, sA, sB, sC]
      refine tkH 7 ⟨some 42, _, _, _, _, _⟩ ?_ rfl ?_ (by assumption) ?_
      rotate_left
      · (intro w hSw; (try dsimp only at hSw); go_simp; all_goals with_reducible rfl)
      try simp only [Act.put, sA, sB, sC]
      refine tkH 8 ⟨some 43, _, _, _, _, _⟩ ?_ rfl ?_ (by assumption) ?_
      rotate_left
      · (intro w hSw; (try dsimp only at hSw); go_simp; all_goals with_reducible rfl)
      try simp only [Act.put, sA, sB, sC]
      refine wpAnyH_ready (rs := [10]) (by kernel_rfl) (by simp) ?_
      refine AllReadyH.cons rfl (fun K hK => ?_) (AllReadyH.nil)
      obtain ⟨q0, q1, q2, qf, ql, qg⟩ := HN4.out
      have k8 := HK5.out _ hT4
      have nw : w.heap.size ≠ bx := by omega
      have nw2 : bx ≠ w.heap.size := by omega
      go_simp
      go_wp2_with fail
      refine hK.out _ _ (by simp [go_sem, World.cell?_alloc_past, *]) (fun hHeld => ?_)
      clear hK K
      try simp only [Act.put, sA, sB, sC]
      refine tkH 11 ⟨some 6, _, _, _, _, _⟩ ?_ rfl ?_ (by assumption) ?_
      rotate_left
      · (intro w hSw; (try dsimp only at hSw); go_simp; all_goals with_reducible rfl)
      try simp only [Act.put, sA, sB, sC]
      refine wpAnyH_done (by kernel_rfl) ?_ _
      go_wp2_with fail
      go_meet
      exact ⟨bx, rfl, rfl, qg, by simp; omega, by simp [go_sem, *], by simp [go_sem, *], by simp [go_sem, *], (by (repeat (first | (with_reducible refine Below.drew ?_) | (with_reducible refine below_drewN ?_ _) | (with_reducible refine Below.alloc ?_ (by first | omega | (simp; done) | (simp; omega) | (simp at *; omega)) _) | (with_reducible refine Below.setCell ?_ (by first | omega | (simp; done) | (simp; omega) | (simp at *; omega)) _) | (with_reducible exact Below.refl _ _) | (with_reducible assumption) | (with_reducible refine Below.trans ?_ (Below.mono (by assumption) (by first | omega | (simp; done) | (simp; omega) | (simp at *; omega)))))))⟩
  case rest =>
    obtain ⟨b5, rfl, rfl, g5, l5, y0, y1, y2, hBc⟩ := hcut
    have hcu : Below u.heap.size u wc := hB2.trans (hBc.mono hB2.size)
    have HT : Hid (LwT s0 s1 s2 s3 s4 s5 s6 s7 m a b 0 0 0 b5 w wc) := Lib.hid ⟨HS.out _ hcu, y0, y1, y2, l5⟩
    have HA2 : Hid (∀ y, Below wc.heap.size wc y → SlRows wiV 3 y A L) := Lib.hid fun y hy => HA.out _ (hcu.trans (hy.mono hcu.size))
    clear hB2 zz2 zu2 hc2 c0 c1 c2 c3 c4 c5 c6 c7 c8 c9 c10 hBe hlt HS HA HU hcu hBc g5 l5 y0 y1 y2 HK5 HA5 hw5
    have HA : Hid (∀ y, Below wc.heap.size wc y → SlRows wiV 3 y A L) := HA2
    clear HA2
    have HS : Hid (∀ y, Below wc.heap.size wc y → LwT s0 s1 s2 s3 s4 s5 s6 s7 m a b 0 0 0 b5 w y) := Lib.hid fun y hy => HT.out.below hy
    go_upto_region 6 with (fail)
    have HW6 : Hid (∀ y, Below wc.heap.size wc y → LwS s0 s1 s2 s3 s4 s5 s6 s7 m a b w y) := Lib.hid fun y hy => (HS.out _ hy).ls
    refine wp_region_held_drew (S := (fun w' => w'.cell? ⟨w.heap.size, 0, none⟩ = some (.int .i64 s0) ∧ w'.cell? ⟨w.heap.size, 1, none⟩ = some (.int .i64 s1) ∧ w'.cell? ⟨w.heap.size, 2, none⟩ = some (.int .i64 s2) ∧ w'.cell? ⟨w.heap.size, 3, none⟩ = some (.int .i64 s3) ∧ w'.cell? ⟨w.heap.size, 4, none⟩ = some (.int .i64 s4) ∧ w'.cell? ⟨w.heap.size, 5, none⟩ = some (.int .i64 s5) ∧ w'.cell? ⟨w.heap.size, 6, none⟩ = some (.int .i64 s6) ∧ w'.cell? ⟨w.heap.size, 7, none⟩ = some (.int .i64 s7) ∧ w'.cell? ⟨w.heap.size, 9, none⟩ = some (.int .i64 a) ∧ w'.cell? ⟨w.heap.size, 10, none⟩ = some (.int .i64 b))) (by kernel_rfl) (by exact (let h := HW6.out _ (Below.refl _ _).drew; ⟨h.c0, h.c1, h.c2, h.c3, h.c4, h.c5, h.c6, h.c7, h.c9, h.c10⟩)) (fun hHeld => ?_)
    have hT0 : Below wc.heap.size wc wc.drew := (Below.refl _ _).drew
    generalize hdr : wc.drew = v0 at *
    clear hdr
    refine tkH 0 ⟨some 45, _, _, _, _, _⟩ ?_ rfl ?_ (by assumption) ?_
    rotate_left
    · (intro w hSw; (try dsimp only at hSw); go_simp; all_goals with_reducible rfl)
    try simp only [Act.put, sA, sB, sC]
    refine tkH 1 ⟨some 46, _, _, _, _, _⟩ ?_ rfl ?_ (by assumption) ?_
    rotate_left
    · (intro w hSw; (try dsimp only at hSw); go_simp; all_goals with_reducible rfl)
    try simp only [Act.put, sA, sB, sC]
    refine tkH 3 ⟨some 48, _, _, _, _, _⟩ ?_ rfl ?_ (by assumption) ?_
    rotate_left
    · (intro w hSw; (try dsimp only at hSw); go_simp; all_goals with_reducible rfl)
    try simp only [Act.put, sA, sB, sC]
    refine tkH 5 ⟨some 50, _, _, _, _, _⟩ ?_ rfl ?_ (by assumption) ?_
    rotate_left
    · (intro w hSw; (try dsimp only at hSw); go_simp; all_goals with_reducible rfl)
    try simp only [Act.put, sA, sB, sC]
    refine tkH 6 ⟨some 51, _, _, _, _, _⟩ ?_ rfl ?_ (by assumption) ?_
    rotate_left
    · (intro w hSw; (try dsimp only at hSw); go_simp; all_goals with_reducible rfl)
    try simp only [Act.put, sA, sB, sC]
    refine wpAnyH_ready (rs := [2]) (by kernel_rfl) (by simp) ?_
    refine AllReadyH.cons rfl (fun K hK => ?_) (AllReadyH.nil)
    go_simp
    go_wp2_with fail
    refine hK.out _ _ (let h := HW6.out _ (hT0.alloc hT0.size _); ⟨h.c0, h.c1, h.c2, h.c3, h.c4, h.c5, h.c6, h.c7, h.c9, h.c10⟩) (fun hHeld => ?_)
    clear hK K
    try simp only [Act.put, sA, sB, sC]
    obtain ⟨bz, ebz⟩ : ∃ x, v0.heap.size = x := ⟨_, rfl⟩
    generalize hq0 : v0.alloc (.cells #[] 63) = v1
    have hb0 : Below v0.heap.size v0 v1 := by rw [← hq0]; exact (Below.refl _ _).alloc (Nat.le_refl _) _
    have hT1 : Below wc.heap.size wc v1 := hT0.trans (hb0.mono hT0.size)
    have HE1 : Hid (v1.ownsRow wc.heap.size 63 3 (.slice (some ⟨bz, 0, none⟩) 0 0) 0 []) := Lib.hid (own_emptyS (by rw [← ebz]; exact hT0.size) (by rw [← hq0, ← ebz]; exact allocF_at _ _))
    rw [ebz]
    clear hq0 hb0
    refine wpAnyH_ready (rs := [4]) (by kernel_rfl) (by simp) ?_
    refine AllReadyH.cons rfl (fun K hK => ?_) (AllReadyH.nil)
    rw [if_pos (by kernel_rfl)]
    have HX1 := Lib.hid (wi_src (HA.out _ hT1))
    refine oper_append_sl _ _ 56 rfl wc.heap.size 63 i0 (.agg #[.int .i64 0, .int .i64 0, .int .i64 0]) 3 24 Tryz.underlying56 HI.out HZ0.out HZ1.out HZ2.out rfl (by decide) _ 0 [] rfl HE1.out A n cap (rowsV wiV L) rfl CA.out HLLA.out HX1.out (rows_one wiV_one L) ?d1 ?d2 hT1.size ?_
    case d1 => unfold maxLen; omega
    case d2 => omega
    intro r1 v2 hown hgrow hblk
    try simp only [Nat.zero_add, List.nil_append] at hown
    have hT2 : Below wc.heap.size wc v2 := hT1.grown hgrow hT1.size (fun r hr => (own_block HE1.out r hr).1)
    obtain ⟨G6, cg6, hv6, hS6, _, _, _, _⟩ := SlRows_own (f := wiV) (n := 3) (L := L) (fun _ => rfl) (by rw [← hn.out]; exact hown)
    rw [← hn.out] at hv6
    subst hv6
    have HG6 := Lib.hid hS6
    clear hown hgrow hblk hS6
    refine hK.out _ _ (let h := HW6.out _ hT2; ⟨h.c0, h.c1, h.c2, h.c3, h.c4, h.c5, h.c6, h.c7, h.c9, h.c10⟩) (fun hHeld => ?_)
    clear hK K
    try simp only [Act.put, sA, sB, sC]
    refine wpAnyH_ready (rs := [7]) (by kernel_rfl) (by simp) ?_
    refine AllReadyH.cons rfl (fun K hK => ?_) (AllReadyH.nil)
    go_simp
    have hTv : Below wc.heap.size wc v2 := hT2
    refine (CalmWindows_w L G6 n cg6 M s0 s1 s2 s3 s4 s5 s6 s7 a b N V _ hM hn (by omega) HG6 hCE hN hV (by omega)).mono ?_
    rintro e x3 ⟨GW, cW, rfl, hSW, hNW, hb3⟩
    have hc3 : Below v2.heap.size v2 x3 := hb3
    have hB3 : Below wc.heap.size wc x3 := hTv.trans (hc3.mono hTv.size)
    have zu3 := hB3.size
    have GP := Lib.hid hSW
    clear hSW hNW
    go_wp2_with fail
    refine hK.out _ _ (let h := HW6.out _ hB3; ⟨h.c0, h.c1, h.c2, h.c3, h.c4, h.c5, h.c6, h.c7, h.c9, h.c10⟩) (fun hHeld => ?_)
    clear hK K
    try simp only [Act.put, sA, sB, sC]
    refine tkH 8 ⟨some 44, _, _, _, _, _⟩ ?_ rfl ?_ (by assumption) ?_
    rotate_left
    · (intro w hSw; (try dsimp only at hSw); go_simp; all_goals with_reducible rfl)
    try simp only [Act.put, sA, sB, sC]
    refine tkH 9 ⟨some 53, _, _, _, _, _⟩ ?_ rfl ?_ (by assumption) ?_
    rotate_left
    · (intro w hSw; (try dsimp only at hSw); go_simp; all_goals with_reducible rfl)
    try simp only [Act.put, sA, sB, sC]
    refine tkH 10 ⟨some 54, _, _, _, _, _⟩ ?_ rfl ?_ (by assumption) ?_
    rotate_left
    · (intro w hSw; (try dsimp only at hSw); go_simp; all_goals with_reducible rfl)
    try simp only [Act.put, sA, sB, sC]
    refine tkH 11 ⟨some 7, _, _, _, _, _⟩ ?_ rfl ?_ (by assumption) ?_
    rotate_left
    · (intro w hSw; (try dsimp only at hSw); go_simp; all_goals with_reducible rfl)
    try simp only [Act.put, sA, sB, sC]
    refine tkH 12 ⟨some 8, _, _, _, _, _⟩ ?_ rfl ?_ (by assumption) ?_
    rotate_left
    · (intro w hSw; (try dsimp only at hSw); go_simp; all_goals with_reducible rfl)
    try simp only [Act.put, sA, sB, sC]
    refine wpAnyH_done (by kernel_rfl) ?_ _
    clear hb3 hTv hT0 
    obtain ⟨⟨c0, c1, c2, c3, c4, c5, c6, c7, c8, c9, c10, hBe, hlt⟩, y0, y1, y2, l5⟩ := HS.out _ hB3
    go_wp2_with fail
    refine (refWinds_is L A cap n 0 _ hn (by omega) (HA.out _ (by (repeat (first | (with_reducible refine Below.drew ?_) | (with_reducible refine below_drewN ?_ _) | (with_reducible refine Below.alloc ?_ (by first | omega | (simp; done) | (simp; omega) | (simp at *; omega)) _) | (with_reducible refine Below.setCell ?_ (by first | omega | (simp; done) | (simp; omega) | (simp at *; omega)) _) | (with_reducible exact Below.refl _ _) | (with_reducible assumption) | (with_reducible refine Below.trans ?_ (Below.mono (by assumption) (by first | omega | (simp; done) | (simp; omega) | (simp at *; omega)))))))) hD).mono ?_
    rintro e x4 ⟨rfl, hb4⟩
    have zz4 := hb4.size
    try simp at zz4
    have hc4 : Below x3.heap.size x3 x4 := (by (repeat (first | (with_reducible refine Below.drew ?_) | (with_reducible refine below_drewN ?_ _) | (with_reducible refine Below.alloc ?_ (by first | omega | (simp; done) | (simp; omega) | (simp at *; omega)) _) | (with_reducible refine Below.setCell ?_ (by first | omega | (simp; done) | (simp; omega) | (simp at *; omega)) _) | (with_reducible exact Below.refl _ _) | (with_reducible assumption) | (with_reducible refine Below.trans ?_ (Below.mono (by assumption) (by first | omega | (simp; done) | (simp; omega) | (simp at *; omega)))))))
    have hB4 : Below wc.heap.size wc x4 := hB3.trans (hc4.mono hB3.size)
    have zu4 := hB4.size
    replace GP := Lib.hid (GP.out.below hc4)
    clear hb4 hB3 zu3 hc3 c0 c1 c2 c3 c4 c5 c6 c7 c8 c9 c10 hBe hlt y0 y1 y2 l5
    obtain ⟨⟨c0, c1, c2, c3, c4, c5, c6, c7, c8, c9, c10, hBe, hlt⟩, y0, y1, y2, l5⟩ := HS.out _ hB4
    go_upto_region 8 with (fail)
    have HO8 := Lib.hid (World.ownsRow_made (base := x4.heap.size) (e := 63) (size := 3) x4 #[] 0 (Nat.le_refl _) (by simp) (by simp))
    have HX8 := Lib.hid (wi_src (HA.out _ (hB4.trans ((Below.alloc (Below.refl _ x4) (Nat.le_refl _) (.cells #[] 63)).mono hB4.size))))
    go_wp2_with (at_builtin; refine wpList_append_sl rfl _ _ 56 rfl x4.heap.size 63 i0 (.agg #[.int .i64 0, .int .i64 0, .int .i64 0]) 3 24 Tryz.underlying56 HI.out HZ0.out HZ1.out HZ2.out rfl (by decide) _ 0 [] rfl HO8.out A n cap (rowsV wiV L) rfl CA.out HLLA.out HX8.out (rows_one wiV_one L) ?e1 ?e2 ?e3 ?_)
    case e1 => unfold maxLen; omega
    case e2 => omega
    case e3 => simp
    intro r8 v8 hown hgrow hblk
    have hb8 : Below x4.heap.size x4 v8 := ((Below.refl x4.heap.size x4).alloc (Nat.le_refl _) _).grown hgrow (by simp) (by intro k hk; simp [Value.ownBlock] at hk; omega)
    try simp only [Nat.zero_add, List.nil_append] at hown
    obtain ⟨G8, cg8, hv8, hS8, _, _, _, _⟩ := SlRows_own (f := wiV) (n := 3) (L := L) (fun _ => rfl) (by rw [← hn.out]; exact hown)
    rw [← hn.out] at hv8
    subst hv8
    have HG8 := Lib.hid hS8
    clear hown hgrow hblk hS8 HO8 HX8
    go_wp2_with fail
    refine (CheckWinds_is L G8 cg8 n 0 _ hn (by omega) HG8.out hD).mono ?_
    rintro e x5 ⟨rfl, hb5⟩
    have hc5 : Below x4.heap.size x4 x5 := hb8.trans (hb5.mono hb8.size)
    have hB5 : Below wc.heap.size wc x5 := hB4.trans (hc5.mono hB4.size)
    have zu5 := hB5.size
    replace GP := Lib.hid (GP.out.below hc5)
    clear hb5 hb8 hB4 zz4 zu4 hc4 c0 c1 c2 c3 c4 c5 c6 c7 c8 c9 c10 hBe hlt y0 y1 y2 l5
    obtain ⟨⟨c0, c1, c2, c3, c4, c5, c6, c7, c8, c9, c10, hBe, hlt⟩, y0, y1, y2, l5⟩ := HS.out _ hB5
    go_wp2_with fail
    refine (refShel_is M s0 s1 s2 s3 s4 s5 s6 s7 0 _ hM hS).mono ?_
    rintro e x6 ⟨rfl, hb6⟩
    have zz6 := hb6.size
    try simp at zz6
    have hc6 : Below x5.heap.size x5 x6 := (by (repeat (first | (with_reducible refine Below.drew ?_) | (with_reducible refine below_drewN ?_ _) | (with_reducible refine Below.alloc ?_ (by first | omega | (simp; done) | (simp; omega) | (simp at *; omega)) _) | (with_reducible refine Below.setCell ?_ (by first | omega | (simp; done) | (simp; omega) | (simp at *; omega)) _) | (with_reducible exact Below.refl _ _) | (with_reducible assumption) | (with_reducible refine Below.trans ?_ (Below.mono (by assumption) (by first | omega | (simp; done) | (simp; omega) | (simp at *; omega)))))))
    have hB6 : Below wc.heap.size wc x6 := hB5.trans (hc6.mono hB5.size)
    have zu6 := hB6.size
    replace GP := Lib.hid (GP.out.below hc6)
    clear hb6 hB5 zu5 hc5 c0 c1 c2 c3 c4 c5 c6 c7 c8 c9 c10 hBe hlt y0 y1 y2 l5
    obtain ⟨⟨c0, c1, c2, c3, c4, c5, c6, c7, c8, c9, c10, hBe, hlt⟩, y0, y1, y2, l5⟩ := HS.out _ hB6
    go_wp2_with fail
    refine (isMin_is m true _ hM0).mono ?_
    rintro e w' ⟨rfl, rfl⟩
    go_wp2_with fail
    refine (refSpan_is a b 0 _ hP).mono ?_
    rintro e x7 ⟨rfl, hb7⟩
    have zz7 := hb7.size
    try simp at zz7
    have hc7 : Below x6.heap.size x6 x7 := (by (repeat (first | (with_reducible refine Below.drew ?_) | (with_reducible refine below_drewN ?_ _) | (with_reducible refine Below.alloc ?_ (by first | omega | (simp; done) | (simp; omega) | (simp at *; omega)) _) | (with_reducible refine Below.setCell ?_ (by first | omega | (simp; done) | (simp; omega) | (simp at *; omega)) _) | (with_reducible exact Below.refl _ _) | (with_reducible assumption) | (with_reducible refine Below.trans ?_ (Below.mono (by assumption) (by first | omega | (simp; done) | (simp; omega) | (simp at *; omega)))))))
    have hB7 : Below wc.heap.size wc x7 := hB6.trans (hc7.mono hB6.size)
    have zu7 := hB7.size
    replace GP := Lib.hid (GP.out.below hc7)
    clear hb7 hB6 zz6 zu6 hc6 c0 c1 c2 c3 c4 c5 c6 c7 c8 c9 c10 hBe hlt y0 y1 y2 l5
    obtain ⟨⟨c0, c1, c2, c3, c4, c5, c6, c7, c8, c9, c10, hBe, hlt⟩, y0, y1, y2, l5⟩ := HS.out _ hB7
    go_wp2_with fail
    refine (refWat_is L A n cap m ⟨0, 0, 0⟩ false _ hn n0 (by omega) (Lib.hid (HA.out _ (by (repeat (first | (with_reducible refine Below.drew ?_) | (with_reducible refine below_drewN ?_ _) | (with_reducible refine Below.alloc ?_ (by first | omega | (simp; done) | (simp; omega) | (simp at *; omega)) _) | (with_reducible refine Below.setCell ?_ (by first | omega | (simp; done) | (simp; omega) | (simp at *; omega)) _) | (with_reducible exact Below.refl _ _) | (with_reducible assumption) | (with_reducible refine Below.trans ?_ (Below.mono (by assumption) (by first | omega | (simp; done) | (simp; omega) | (simp at *; omega))))))))) hs hx hp9).mono ?_
    rintro e x8 ⟨rfl, hb8⟩
    have zz8 := hb8.size
    try simp at zz8
    have hc8 : Below x7.heap.size x7 x8 := (by (repeat (first | (with_reducible refine Below.drew ?_) | (with_reducible refine below_drewN ?_ _) | (with_reducible refine Below.alloc ?_ (by first | omega | (simp; done) | (simp; omega) | (simp at *; omega)) _) | (with_reducible refine Below.setCell ?_ (by first | omega | (simp; done) | (simp; omega) | (simp at *; omega)) _) | (with_reducible exact Below.refl _ _) | (with_reducible assumption) | (with_reducible refine Below.trans ?_ (Below.mono (by assumption) (by first | omega | (simp; done) | (simp; omega) | (simp at *; omega)))))))
    have hB8 : Below wc.heap.size wc x8 := hB7.trans (hc8.mono hB7.size)
    have zu8 := hB8.size
    replace GP := Lib.hid (GP.out.below hc8)
    clear hb8 hB7 zz7 zu7 hc7 c0 c1 c2 c3 c4 c5 c6 c7 c8 c9 c10 hBe hlt y0 y1 y2 l5
    obtain ⟨⟨c0, c1, c2, c3, c4, c5, c6, c7, c8, c9, c10, hBe, hlt⟩, y0, y1, y2, l5⟩ := HS.out _ hB8
    go_wp2_with fail
    refine (refCalm_v L A n cap N M s0 s1 s2 s3 s4 s5 s6 s7 a b V _ hM hn (by omega) (Lib.hid (HA.out _ (by (repeat (first | (with_reducible refine Below.drew ?_) | (with_reducible refine below_drewN ?_ _) | (with_reducible refine Below.alloc ?_ (by first | omega | (simp; done) | (simp; omega) | (simp at *; omega)) _) | (with_reducible refine Below.setCell ?_ (by first | omega | (simp; done) | (simp; omega) | (simp at *; omega)) _) | (with_reducible exact Below.refl _ _) | (with_reducible assumption) | (with_reducible refine Below.trans ?_ (Below.mono (by assumption) (by first | omega | (simp; done) | (simp; omega) | (simp at *; omega))))))))) hD a0 ab b1 hs3 hN hV).mono ?_
    rintro e x9 ⟨GR, cR, rfl, hSR, hNR, hb9⟩
    have zz9 := hb9.size
    try simp at zz9
    have hc9 : Below x8.heap.size x8 x9 := (by (repeat (first | (with_reducible refine Below.drew ?_) | (with_reducible refine below_drewN ?_ _) | (with_reducible refine Below.alloc ?_ (by first | omega | (simp; done) | (simp; omega) | (simp at *; omega)) _) | (with_reducible refine Below.setCell ?_ (by first | omega | (simp; done) | (simp; omega) | (simp at *; omega)) _) | (with_reducible exact Below.refl _ _) | (with_reducible assumption) | (with_reducible refine Below.trans ?_ (Below.mono (by assumption) (by first | omega | (simp; done) | (simp; omega) | (simp at *; omega)))))))
    have hB9 : Below wc.heap.size wc x9 := hB8.trans (hc9.mono hB8.size)
    have zu9 := hB9.size
    have HSR := Lib.hid hSR
    clear hSR hNR
    replace GP := Lib.hid (GP.out.below hc9)
    clear hb9 hB8 zz8 zu8 hc8 c0 c1 c2 c3 c4 c5 c6 c7 c8 c9 c10 hBe hlt y0 y1 y2 l5
    obtain ⟨⟨c0, c1, c2, c3, c4, c5, c6, c7, c8, c9, c10, hBe, hlt⟩, y0, y1, y2, l5⟩ := HS.out _ hB9
    go_wp2_with fail
    refine (ranges_t V GW GR cW cR _ _ (Lib.hid rfl) (by omega) GP.out HSR.out).mono ?_
    rintro e x99 ⟨rfl, hb99⟩
    have hB99 : Below w.heap.size w x99 := hBe.trans (hb99.mono hBe.size)
    clear hb99
    go_wp2
    go_ret
    exact ⟨rfl, hB99⟩
end Go.Proofs.YtojaompfffpofaaGreat
