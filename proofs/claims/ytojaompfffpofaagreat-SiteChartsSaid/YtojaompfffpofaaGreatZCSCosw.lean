import Derived.Test.YtojaompfffpofaaGreatZCSTide
import Derived.Outline
namespace Go.Proofs.YtojaompfffpofaaGreat
open Go.ChangeShapes Go.WideShapes Go.ChangeAt Go.RowKit
set_option linter.unusedVariables false
set_option linter.unusedSimpArgs false
attribute [local go_sem ↓] Go.wp_at_zero Go.wp_at_succ
theorem angleAt_is (h p f t : Int) (k1 k2 : Nat) (w : World) (hw : WvOk ⟨h, p, f⟩) (t0 : 0 ≤ t) (t1 : t ≤ 2000000) (e1 : Hid (angLo ⟨h, p, f⟩ t = k1)) (e2 : Hid (angHi ⟨h, p, f⟩ t = k2)) :
    Calls Tryz.prog 141 #[.agg #[.int .i64 h, .int .i64 p, .int .i64 f], .int .i64 t] w fun e w' => e = .returned (.agg #[.int .i64 k1, .int .i64 k2]) ∧ Below w.heap.size w w' := by
  have := angleAt_any h p f t w hw t0 t1
  rw [e1.out, e2.out] at this; exact this
theorem cosine_is (b off n : Nat) (x y : Int) (w : World) (hn : n ≤ 4096) (hb : b < w.heap.size) (H : Hid (HvA w b off)) (hc : Hid (cosP n = (x, y))) :
    Calls Tryz.prog 142 #[.pointer (some ⟨b, off, none⟩), .int .i64 n] w fun e w' => e = .returned (.agg #[.int .i64 x, .int .i64 y]) ∧ Below w.heap.size w w' := by
  have := cosine_any b off n w hn hb H
  rw [hc.out] at this; exact this
/-- What is known behind the two cosines: two blocks of their own hold them. -/
def CosR (w : World) (a b c d : Int) (s8 s9 : Value) (wx : World) : Prop := ∃ x y : Nat, s8 = .pointer (some ⟨x, 0, none⟩) ∧ s9 = .pointer (some ⟨y, 0, none⟩) ∧ wx.cell? ⟨x, 0, none⟩ = some (.int .i64 a) ∧ wx.cell? ⟨x, 1, none⟩ = some (.int .i64 b) ∧ wx.cell? ⟨y, 0, none⟩ = some (.int .i64 c) ∧ wx.cell? ⟨y, 1, none⟩ = some (.int .i64 d) ∧ wx.cell? ⟨w.heap.size + 1, 0, none⟩ = some (.int .i64 0) ∧ wx.cell? ⟨w.heap.size + 1, 1, none⟩ = some (.int .i64 0) ∧ (∀ j, wx.frozen? ⟨w.heap.size + 1, j, none⟩ = false) ∧ w.heap.size + 1 < x ∧ w.heap.size + 1 < y ∧ Below w.heap.size w wx
set_option maxRecDepth 100000 in
set_option maxHeartbeats 8000000 in
theorem cosineAt_any (b : Nat) (h p f t : Int) (w : World) (hw : WvOk ⟨h, p, f⟩) (t0 : 0 ≤ t) (t1 : t ≤ 2000000) (hb : b < w.heap.size) (H : Hid (HvA w b 2)) :
    Calls Tryz.prog 111 #[.pointer (some ⟨b, 0, none⟩), .agg #[.int .i64 h, .int .i64 p, .int .i64 f], .int .i64 t] w fun e w' => e = .returned (.agg #[.int .i64 (cosW ⟨h, p, f⟩ t).1, .int .i64 (cosW ⟨h, p, f⟩ t).2]) ∧ Below w.heap.size w w' := by
  obtain ⟨l0, l1⟩ := angLo_bd hw t0
  obtain ⟨u0, u1⟩ := angHi_bd hw t0
  obtain ⟨k1, hk1⟩ : ∃ k : Nat, Hid (angLo ⟨h, p, f⟩ t = (k : Int)) := ⟨(angLo ⟨h, p, f⟩ t).toNat, Lib.hid (by omega)⟩
  obtain ⟨k2, hk2⟩ : ∃ k : Nat, Hid (angHi ⟨h, p, f⟩ t = (k : Int)) := ⟨(angHi ⟨h, p, f⟩ t).toNat, Lib.hid (by omega)⟩
  rw [hk1.out] at l0 l1
  rw [hk2.out] at u0 u1
  have m1 : k1 ≤ 4096 := by omega
  have m2 : k2 ≤ 4096 := by omega
  obtain ⟨⟨a1, b1⟩, q1⟩ : ∃ q, Hid (cosP k1 = q) := ⟨_, Lib.hid rfl⟩
  obtain ⟨⟨a2, b2⟩, q2⟩ : ∃ q, Hid (cosP k2 = q) := ⟨_, Lib.hid rfl⟩
  have hc : cosW ⟨h, p, f⟩ t = (min a1 a2, max b1 b2) := by
    unfold cosW; rw [hk1.out, hk2.out, Int.toNat_natCast, Int.toNat_natCast, q1.out, q2.out]
  rw [hc]
  dsimp only
  obtain ⟨x1, e1⟩ : ∃ x, min a1 a2 = x := ⟨_, rfl⟩
  obtain ⟨x2, e2⟩ : ∃ x, max b1 b2 = x := ⟨_, rfl⟩
  rw [e1, e2]
  have E1 := Lib.hid e1
  have E2 := Lib.hid e2
  have HA : Hid (∀ w' : World, Below w.heap.size w w' → HvA w' b 2) := Lib.hid fun w' hB => H.out.below hB hb
  clear hc l0 l1 u0 u1 e1 e2
  go_enter Tryz.func111, Tryz.ntmps111
  go_wp2_with fail
  refine (angleAt_is h p f t k1 k2 _ hw t0 t1 hk1 hk2).mono ?_
  rintro e xw1 ⟨rfl, hbx1⟩
  have zx1 := hbx1.size
  try simp at zx1
  obtain ⟨x1_0_0, x1_0_1⟩ : xw1.cell? ⟨w.heap.size + 1, 0, none⟩ = some (.int .i64 0) ∧ xw1.cell? ⟨w.heap.size + 1, 1, none⟩ = some (.int .i64 0) := by refine ⟨?_, ?_⟩ <;> (rw [(bcell hbx1).1 _ _ (by first | (simp; done) | (simp; omega) | omega)]; simp [go_sem, World.cell?_alloc_past, *])
  have x1f0 : (∀ j, xw1.frozen? ⟨w.heap.size + 1, j, none⟩ = false) := by (intro j; rw [(bcell hbx1).2 _ _ (by first | (simp; done) | (simp; omega) | omega)]; simp [go_sem, *])
  obtain ⟨x1o0, x1n0, x1m0, x1t0_0, x1t0_1⟩ : w.heap.size + 1 < xw1.heap.size ∧ xw1.heap.size ≠ w.heap.size + 1 ∧ w.heap.size + 1 ≠ xw1.heap.size ∧ w.heap.size + 1 < xw1.heap.size + 1 ∧ w.heap.size + 1 < xw1.heap.size + 1 + 1 := by refine ⟨?_, ?_, ?_, ?_, ?_⟩ <;> omega
  have hBx1 : Below w.heap.size w xw1 := (by (repeat (first | (with_reducible refine Below.drew ?_) | (with_reducible refine below_drewN ?_ _) | (with_reducible refine Below.alloc ?_ (by first | omega | (simp; done) | (simp; omega) | (simp at *; omega)) _) | (with_reducible refine Below.setCell ?_ (by first | omega | (simp; done) | (simp; omega) | (simp at *; omega)) _) | (with_reducible exact Below.refl _ _) | (with_reducible assumption) | (with_reducible refine Below.trans ?_ (Below.mono (by assumption) (by first | omega | (simp; done) | (simp; omega) | (simp at *; omega)))))))
  clear hbx1 
  go_upto_region 2 with (fail)
  go_cut [8, 9] from 13 (fun s8 s9 wx => CosR w a1 b1 a2 b2 s8 s9 wx)
  case first =>
    refine wp_region_held_drew (S := (fun w' => w'.cell? ⟨xw1.heap.size, 0, none⟩ = some (.int .i64 (k1 : Int)) ∧ w'.cell? ⟨xw1.heap.size, 1, none⟩ = some (.int .i64 (k2 : Int)))) (by kernel_rfl) (by simp [go_sem, World.cell?_alloc_past, *]) (fun hHeld => ?_)
    refine tkH 0 ⟨some 13, _, _, _, _, _⟩ ?_ rfl ?_ (by assumption) ?_
    rotate_left
    · (intro w hSw; (try dsimp only at hSw); go_simp; all_goals with_reducible rfl)
    try simp only [Act.put, sA, sB, sC]
    refine tkH 1 ⟨some 14, _, _, _, _, _⟩ ?_ rfl ?_ (by assumption) ?_
    rotate_left
    · (intro w hSw; (try dsimp only at hSw); go_simp; all_goals with_reducible rfl)
    try simp only [Act.put, sA, sB, sC]
    refine tkH 2 ⟨some 15, _, _, _, _, _⟩ ?_ rfl ?_ (by assumption) ?_
    rotate_left
    · (intro w hSw; (try dsimp only at hSw); go_simp; all_goals with_reducible rfl)
    try simp only [Act.put, sA, sB, sC]
    refine tkH 3 ⟨some 16, _, _, _, _, _⟩ ?_ rfl ?_ (by assumption) ?_
    rotate_left
    · (intro w hSw; (try dsimp only at hSw); go_simp; all_goals with_reducible rfl)
    try simp only [Act.put, sA, sB, sC]
    refine tkH 4 ⟨some 17, _, _, _, _, _⟩ ?_ rfl ?_ (by assumption) ?_
    rotate_left
    · (intro w hSw; (try dsimp only at hSw); go_simp; all_goals with_reducible rfl)
    try simp only [Act.put, sA, sB, sC]
    refine tkH 6 ⟨some 19, _, _, _, _, _⟩ ?_ rfl ?_ (by assumption) ?_
    rotate_left
    · (intro w hSw; (try dsimp only at hSw); go_simp; all_goals with_reducible rfl)
    try simp only [Act.put, sA, sB, sC]
    refine tkH 7 ⟨some 20, _, _, _, _, _⟩ ?_ rfl ?_ (by assumption) ?_
    rotate_left
    · (intro w hSw; (try dsimp only at hSw); go_simp; all_goals with_reducible rfl)
    try simp only [Act.put, sA, sB, sC]
    refine tkH 8 ⟨some 21, _, _, _, _, _⟩ ?_ rfl ?_ (by assumption) ?_
    rotate_left
    · (intro w hSw; (try dsimp only at hSw); go_simp; all_goals with_reducible rfl)
    try simp only [Act.put, sA, sB, sC]
    refine tkH 9 ⟨some 22, _, _, _, _, _⟩ ?_ rfl ?_ (by assumption) ?_
    rotate_left
    · (intro w hSw; (try dsimp only at hSw); go_simp; all_goals with_reducible rfl)
    try simp only [Act.put, sA, sB, sC]
    refine tkH 10 ⟨some 23, _, _, _, _, _⟩ ?_ rfl ?_ (by assumption) ?_
    rotate_left
    · (intro w hSw; (try dsimp only at hSw); go_simp; all_goals with_reducible rfl)
    try simp only [Act.put, sA, sB, sC]
    refine wpAnyH_ready (rs := [5, 12, 13]) (by kernel_rfl) (by simp) ?_
    refine AllReadyH.cons rfl (fun K hK => ?_) (AllReadyH.cons rfl (fun K hK => ?_) (AllReadyH.cons rfl (fun K hK => ?_) (AllReadyH.nil)))
    · skip
      go_simp
      refine (cosine_is b 2 k1 a1 b1 _ m1 (by first | omega | (simp; omega)) (Lib.hid (HA.out _ (by (repeat (first | (with_reducible refine Below.drew ?_) | (with_reducible refine below_drewN ?_ _) | (with_reducible refine Below.alloc ?_ (by first | omega | (simp; done) | (simp; omega) | (simp at *; omega)) _) | (with_reducible refine Below.setCell ?_ (by first | omega | (simp; done) | (simp; omega) | (simp at *; omega)) _) | (with_reducible exact Below.refl _ _) | (with_reducible assumption) | (with_reducible refine Below.trans ?_ (Below.mono (by assumption) (by first | omega | (simp; done) | (simp; omega) | (simp at *; omega))))))))) q1).mono ?_
      rintro e xw2 ⟨rfl, hbx2⟩
      have zx2 := hbx2.size
      try simp at zx2
      obtain ⟨x2_0_0, x2_0_1, x2_1_0, x2_1_1⟩ : xw2.cell? ⟨w.heap.size + 1, 0, none⟩ = some (.int .i64 0) ∧ xw2.cell? ⟨w.heap.size + 1, 1, none⟩ = some (.int .i64 0) ∧ xw2.cell? ⟨xw1.heap.size, 0, none⟩ = some (.int .i64 ((k1 : Int))) ∧ xw2.cell? ⟨xw1.heap.size, 1, none⟩ = some (.int .i64 ((k2 : Int))) := by refine ⟨?_, ?_, ?_, ?_⟩ <;> (rw [(bcell hbx2).1 _ _ (by first | (simp; done) | (simp; omega) | omega)]; simp [go_sem, World.cell?_alloc_past, *])
      have x2f0 : (∀ j, xw2.frozen? ⟨w.heap.size + 1, j, none⟩ = false) := by (intro j; rw [(bcell hbx2).2 _ _ (by first | (simp; done) | (simp; omega) | omega)]; simp [go_sem, *])
      obtain ⟨x2o0, x2n0, x2m0, x2t0_0, x2t0_1, x2o1, x2n1, x2m1, x2t1_0, x2t1_1⟩ : w.heap.size + 1 < xw2.heap.size ∧ xw2.heap.size ≠ w.heap.size + 1 ∧ w.heap.size + 1 ≠ xw2.heap.size ∧ w.heap.size + 1 < xw2.heap.size + 1 ∧ w.heap.size + 1 < xw2.heap.size + 1 + 1 ∧ xw1.heap.size < xw2.heap.size ∧ xw2.heap.size ≠ xw1.heap.size ∧ xw1.heap.size ≠ xw2.heap.size ∧ xw1.heap.size < xw2.heap.size + 1 ∧ xw1.heap.size < xw2.heap.size + 1 + 1 := by refine ⟨?_, ?_, ?_, ?_, ?_, ?_, ?_, ?_, ?_, ?_⟩ <;> omega
      have hBx2 : Below w.heap.size w xw2 := (by (repeat (first | (with_reducible refine Below.drew ?_) | (with_reducible refine below_drewN ?_ _) | (with_reducible refine Below.alloc ?_ (by first | omega | (simp; done) | (simp; omega) | (simp at *; omega)) _) | (with_reducible refine Below.setCell ?_ (by first | omega | (simp; done) | (simp; omega) | (simp at *; omega)) _) | (with_reducible exact Below.refl _ _) | (with_reducible assumption) | (with_reducible refine Below.trans ?_ (Below.mono (by assumption) (by first | omega | (simp; done) | (simp; omega) | (simp at *; omega)))))))
      clear hbx2 x1_0_0 x1_0_1 x1f0 x1o0 x1n0 x1m0 x1t0_0 x1t0_1 hBx1
      go_wp2_with fail
      refine hK.out _ _ (by simp [go_sem, World.cell?_alloc_past, *]) (fun hHeld => ?_)
      clear hK K
      try simp only [Act.put, sA, sB, sC]
      refine wpAnyH_ready (rs := [11, 12, 13]) (by kernel_rfl) (by simp) ?_
      refine AllReadyH.cons rfl (fun K hK => ?_) (AllReadyH.cons rfl (fun K hK => ?_) (AllReadyH.cons rfl (fun K hK => ?_) (AllReadyH.nil)))
      · skip
        go_simp
        refine (cosine_is b 2 k2 a2 b2 _ m2 (by first | omega | (simp; omega)) (Lib.hid (HA.out _ (by (repeat (first | (with_reducible refine Below.drew ?_) | (with_reducible refine below_drewN ?_ _) | (with_reducible refine Below.alloc ?_ (by first | omega | (simp; done) | (simp; omega) | (simp at *; omega)) _) | (with_reducible refine Below.setCell ?_ (by first | omega | (simp; done) | (simp; omega) | (simp at *; omega)) _) | (with_reducible exact Below.refl _ _) | (with_reducible assumption) | (with_reducible refine Below.trans ?_ (Below.mono (by assumption) (by first | omega | (simp; done) | (simp; omega) | (simp at *; omega))))))))) q2).mono ?_
        rintro e xw3 ⟨rfl, hbx3⟩
        have zx3 := hbx3.size
        try simp at zx3
        obtain ⟨x3_0_0, x3_0_1, x3_1_0, x3_1_1⟩ : xw3.cell? ⟨w.heap.size + 1, 0, none⟩ = some (.int .i64 0) ∧ xw3.cell? ⟨w.heap.size + 1, 1, none⟩ = some (.int .i64 0) ∧ xw3.cell? ⟨xw1.heap.size, 0, none⟩ = some (.int .i64 ((k1 : Int))) ∧ xw3.cell? ⟨xw1.heap.size, 1, none⟩ = some (.int .i64 ((k2 : Int))) := by refine ⟨?_, ?_, ?_, ?_⟩ <;> (rw [(bcell hbx3).1 _ _ (by first | (simp; done) | (simp; omega) | omega)]; simp [go_sem, World.cell?_alloc_past, *])
        have x3f0 : (∀ j, xw3.frozen? ⟨w.heap.size + 1, j, none⟩ = false) := by (intro j; rw [(bcell hbx3).2 _ _ (by first | (simp; done) | (simp; omega) | omega)]; simp [go_sem, *])
        obtain ⟨x3o0, x3n0, x3m0, x3t0_0, x3t0_1, x3o1, x3n1, x3m1, x3t1_0, x3t1_1⟩ : w.heap.size + 1 < xw3.heap.size ∧ xw3.heap.size ≠ w.heap.size + 1 ∧ w.heap.size + 1 ≠ xw3.heap.size ∧ w.heap.size + 1 < xw3.heap.size + 1 ∧ w.heap.size + 1 < xw3.heap.size + 1 + 1 ∧ xw1.heap.size < xw3.heap.size ∧ xw3.heap.size ≠ xw1.heap.size ∧ xw1.heap.size ≠ xw3.heap.size ∧ xw1.heap.size < xw3.heap.size + 1 ∧ xw1.heap.size < xw3.heap.size + 1 + 1 := by refine ⟨?_, ?_, ?_, ?_, ?_, ?_, ?_, ?_, ?_, ?_⟩ <;> omega
        have hBx3 : Below w.heap.size w xw3 := (by (repeat (first | (with_reducible refine Below.drew ?_) | (with_reducible refine below_drewN ?_ _) | (with_reducible refine Below.alloc ?_ (by first | omega | (simp; done) | (simp; omega) | (simp at *; omega)) _) | (with_reducible refine Below.setCell ?_ (by first | omega | (simp; done) | (simp; omega) | (simp at *; omega)) _) | (with_reducible exact Below.refl _ _) | (with_reducible assumption) | (with_reducible refine Below.trans ?_ (Below.mono (by assumption) (by first | omega | (simp; done) | (simp; omega) | (simp at *; omega)))))))
        clear hbx3 x2_0_0 x2_0_1 x2_1_0 x2_1_1 x2f0 x2o0 x2n0 x2m0 x2t0_0 x2t0_1 x2o1 x2n1 x2m1 x2t1_0 x2t1_1 hBx2
        go_wp2_with fail
        refine hK.out _ _ (by simp [go_sem, World.cell?_alloc_past, *]) (fun hHeld => ?_)
        clear hK K
        try simp only [Act.put, sA, sB, sC]
        refine wpAnyH_ready (rs := [12, 13]) (by kernel_rfl) (by simp) ?_
        refine AllReadyH.cons rfl (fun K hK => ?_) (AllReadyH.cons rfl (fun K hK => ?_) (AllReadyH.nil))
        · skip
          go_simp
          go_wp2_with fail
          refine hK.out _ _ (by simp [go_sem, World.cell?_alloc_past, *]) (fun hHeld => ?_)
          clear hK K
          try simp only [Act.put, sA, sB, sC]
          refine wpAnyH_ready (rs := [13]) (by kernel_rfl) (by simp) ?_
          refine AllReadyH.cons rfl (fun K hK => ?_) (AllReadyH.nil)
          go_simp
          go_wp2_with fail
          refine hK.out _ _ (by simp [go_sem, World.cell?_alloc_past, *]) (fun hHeld => ?_)
          clear hK K
          try simp only [Act.put, sA, sB, sC]
          refine wpAnyH_ready (rs := [14]) (by kernel_rfl) (by simp) ?_
          refine AllReadyH.cons rfl (fun K hK => ?_) (AllReadyH.nil)
          go_simp
          go_wp2_with fail
          refine hK.out _ _ (by simp [go_sem, World.cell?_alloc_past, *]) (fun hHeld => ?_)
          clear hK K
          try simp only [Act.put, sA, sB, sC]
          refine wpAnyH_ready (rs := [15]) (by kernel_rfl) (by simp) ?_
          refine AllReadyH.cons rfl (fun K hK => ?_) (AllReadyH.nil)
          go_simp
          go_wp2_with fail
          refine hK.out _ _ (by simp [go_sem, World.cell?_alloc_past, *]) (fun hHeld => ?_)
          clear hK K
          try simp only [Act.put, sA, sB, sC]
          refine wpAnyH_done (by kernel_rfl) ?_ _
          go_wp2_with fail
          go_meet
          exact ⟨xw3.heap.size, xw3.heap.size + 1, rfl, rfl, by simp [go_sem, World.cell?_alloc_past, *], by simp [go_sem, World.cell?_alloc_past, *], by simp [go_sem, World.cell?_alloc_past, *], by simp [go_sem, World.cell?_alloc_past, *], by simp [go_sem, World.cell?_alloc_past, *], by simp [go_sem, World.cell?_alloc_past, *], by intro j; simp [go_sem, *], by omega, by omega, (by (repeat (first | (with_reducible refine Below.drew ?_) | (with_reducible refine below_drewN ?_ _) | (with_reducible refine Below.alloc ?_ (by first | omega | (simp; done) | (simp; omega) | (simp at *; omega)) _) | (with_reducible refine Below.setCell ?_ (by first | omega | (simp; done) | (simp; omega) | (simp at *; omega)) _) | (with_reducible exact Below.refl _ _) | (with_reducible assumption) | (with_reducible refine Below.trans ?_ (Below.mono (by assumption) (by first | omega | (simp; done) | (simp; omega) | (simp at *; omega)))))))⟩
        · skip
          go_simp
          go_wp2_with fail
          refine hK.out _ _ (by simp [go_sem, World.cell?_alloc_past, *]) (fun hHeld => ?_)
          clear hK K
          try simp only [Act.put, sA, sB, sC]
          refine wpAnyH_ready (rs := [12]) (by kernel_rfl) (by simp) ?_
          refine AllReadyH.cons rfl (fun K hK => ?_) (AllReadyH.nil)
          go_simp
          go_wp2_with fail
          refine hK.out _ _ (by simp [go_sem, World.cell?_alloc_past, *]) (fun hHeld => ?_)
          clear hK K
          try simp only [Act.put, sA, sB, sC]
          refine wpAnyH_ready (rs := [14]) (by kernel_rfl) (by simp) ?_
          refine AllReadyH.cons rfl (fun K hK => ?_) (AllReadyH.nil)
          go_simp
          go_wp2_with fail
          refine hK.out _ _ (by simp [go_sem, World.cell?_alloc_past, *]) (fun hHeld => ?_)
          clear hK K
          try simp only [Act.put, sA, sB, sC]
          refine wpAnyH_ready (rs := [15]) (by kernel_rfl) (by simp) ?_
          refine AllReadyH.cons rfl (fun K hK => ?_) (AllReadyH.nil)
          go_simp
          go_wp2_with fail
          refine hK.out _ _ (by simp [go_sem, World.cell?_alloc_past, *]) (fun hHeld => ?_)
          clear hK K
          try simp only [Act.put, sA, sB, sC]
          refine wpAnyH_done (by kernel_rfl) ?_ _
          go_wp2_with fail
          go_meet
          exact ⟨xw3.heap.size + 1, xw3.heap.size, rfl, rfl, by simp [go_sem, World.cell?_alloc_past, *], by simp [go_sem, World.cell?_alloc_past, *], by simp [go_sem, World.cell?_alloc_past, *], by simp [go_sem, World.cell?_alloc_past, *], by simp [go_sem, World.cell?_alloc_past, *], by simp [go_sem, World.cell?_alloc_past, *], by intro j; simp [go_sem, *], by omega, by omega, (by (repeat (first | (with_reducible refine Below.drew ?_) | (with_reducible refine below_drewN ?_ _) | (with_reducible refine Below.alloc ?_ (by first | omega | (simp; done) | (simp; omega) | (simp at *; omega)) _) | (with_reducible refine Below.setCell ?_ (by first | omega | (simp; done) | (simp; omega) | (simp at *; omega)) _) | (with_reducible exact Below.refl _ _) | (with_reducible assumption) | (with_reducible refine Below.trans ?_ (Below.mono (by assumption) (by first | omega | (simp; done) | (simp; omega) | (simp at *; omega)))))))⟩
      · skip
        go_simp
        go_wp2_with fail
        refine hK.out _ _ (by simp [go_sem, World.cell?_alloc_past, *]) (fun hHeld => ?_)
        clear hK K
        try simp only [Act.put, sA, sB, sC]
        refine wpAnyH_ready (rs := [11, 13]) (by kernel_rfl) (by simp) ?_
        refine AllReadyH.cons rfl (fun K hK => ?_) (AllReadyH.cons rfl (fun K hK => ?_) (AllReadyH.nil))
        · skip
          go_simp
          refine (cosine_is b 2 k2 a2 b2 _ m2 (by first | omega | (simp; omega)) (Lib.hid (HA.out _ (by (repeat (first | (with_reducible refine Below.drew ?_) | (with_reducible refine below_drewN ?_ _) | (with_reducible refine Below.alloc ?_ (by first | omega | (simp; done) | (simp; omega) | (simp at *; omega)) _) | (with_reducible refine Below.setCell ?_ (by first | omega | (simp; done) | (simp; omega) | (simp at *; omega)) _) | (with_reducible exact Below.refl _ _) | (with_reducible assumption) | (with_reducible refine Below.trans ?_ (Below.mono (by assumption) (by first | omega | (simp; done) | (simp; omega) | (simp at *; omega))))))))) q2).mono ?_
          rintro e xw3 ⟨rfl, hbx3⟩
          have zx3 := hbx3.size
          try simp at zx3
          obtain ⟨x3_0_0, x3_0_1, x3_1_0, x3_1_1, x3_2_0, x3_2_1⟩ : xw3.cell? ⟨w.heap.size + 1, 0, none⟩ = some (.int .i64 0) ∧ xw3.cell? ⟨w.heap.size + 1, 1, none⟩ = some (.int .i64 0) ∧ xw3.cell? ⟨xw1.heap.size, 0, none⟩ = some (.int .i64 ((k1 : Int))) ∧ xw3.cell? ⟨xw1.heap.size, 1, none⟩ = some (.int .i64 ((k2 : Int))) ∧ xw3.cell? ⟨xw2.heap.size, 0, none⟩ = some (.int .i64 0) ∧ xw3.cell? ⟨xw2.heap.size, 1, none⟩ = some (.int .i64 0) := by refine ⟨?_, ?_, ?_, ?_, ?_, ?_⟩ <;> (rw [(bcell hbx3).1 _ _ (by first | (simp; done) | (simp; omega) | omega)]; simp [go_sem, World.cell?_alloc_past, *])
          obtain ⟨x3f0, x3f2⟩ : (∀ j, xw3.frozen? ⟨w.heap.size + 1, j, none⟩ = false) ∧ (∀ j, xw3.frozen? ⟨xw2.heap.size, j, none⟩ = false) := by refine ⟨?_, ?_⟩ <;> (intro j; rw [(bcell hbx3).2 _ _ (by first | (simp; done) | (simp; omega) | omega)]; simp [go_sem, *])
          obtain ⟨x3o0, x3n0, x3m0, x3t0_0, x3t0_1, x3o1, x3n1, x3m1, x3t1_0, x3t1_1, x3o2, x3n2, x3m2, x3t2_0, x3t2_1⟩ : w.heap.size + 1 < xw3.heap.size ∧ xw3.heap.size ≠ w.heap.size + 1 ∧ w.heap.size + 1 ≠ xw3.heap.size ∧ w.heap.size + 1 < xw3.heap.size + 1 ∧ w.heap.size + 1 < xw3.heap.size + 1 + 1 ∧ xw1.heap.size < xw3.heap.size ∧ xw3.heap.size ≠ xw1.heap.size ∧ xw1.heap.size ≠ xw3.heap.size ∧ xw1.heap.size < xw3.heap.size + 1 ∧ xw1.heap.size < xw3.heap.size + 1 + 1 ∧ xw2.heap.size < xw3.heap.size ∧ xw3.heap.size ≠ xw2.heap.size ∧ xw2.heap.size ≠ xw3.heap.size ∧ xw2.heap.size < xw3.heap.size + 1 ∧ xw2.heap.size < xw3.heap.size + 1 + 1 := by refine ⟨?_, ?_, ?_, ?_, ?_, ?_, ?_, ?_, ?_, ?_, ?_, ?_, ?_, ?_, ?_⟩ <;> omega
          have hBx3 : Below w.heap.size w xw3 := (by (repeat (first | (with_reducible refine Below.drew ?_) | (with_reducible refine below_drewN ?_ _) | (with_reducible refine Below.alloc ?_ (by first | omega | (simp; done) | (simp; omega) | (simp at *; omega)) _) | (with_reducible refine Below.setCell ?_ (by first | omega | (simp; done) | (simp; omega) | (simp at *; omega)) _) | (with_reducible exact Below.refl _ _) | (with_reducible assumption) | (with_reducible refine Below.trans ?_ (Below.mono (by assumption) (by first | omega | (simp; done) | (simp; omega) | (simp at *; omega)))))))
          clear hbx3 x2_0_0 x2_0_1 x2_1_0 x2_1_1 x2f0 x2o0 x2n0 x2m0 x2t0_0 x2t0_1 x2o1 x2n1 x2m1 x2t1_0 x2t1_1 hBx2
          go_wp2_with fail
          refine hK.out _ _ (by simp [go_sem, World.cell?_alloc_past, *]) (fun hHeld => ?_)
          clear hK K
          try simp only [Act.put, sA, sB, sC]
          refine wpAnyH_ready (rs := [13]) (by kernel_rfl) (by simp) ?_
          refine AllReadyH.cons rfl (fun K hK => ?_) (AllReadyH.nil)
          go_simp
          go_wp2_with fail
          refine hK.out _ _ (by simp [go_sem, World.cell?_alloc_past, *]) (fun hHeld => ?_)
          clear hK K
          try simp only [Act.put, sA, sB, sC]
          refine wpAnyH_ready (rs := [14]) (by kernel_rfl) (by simp) ?_
          refine AllReadyH.cons rfl (fun K hK => ?_) (AllReadyH.nil)
          go_simp
          go_wp2_with fail
          refine hK.out _ _ (by simp [go_sem, World.cell?_alloc_past, *]) (fun hHeld => ?_)
          clear hK K
          try simp only [Act.put, sA, sB, sC]
          refine wpAnyH_ready (rs := [15]) (by kernel_rfl) (by simp) ?_
          refine AllReadyH.cons rfl (fun K hK => ?_) (AllReadyH.nil)
          go_simp
          go_wp2_with fail
          refine hK.out _ _ (by simp [go_sem, World.cell?_alloc_past, *]) (fun hHeld => ?_)
          clear hK K
          try simp only [Act.put, sA, sB, sC]
          refine wpAnyH_done (by kernel_rfl) ?_ _
          go_wp2_with fail
          go_meet
          exact ⟨xw2.heap.size, xw3.heap.size, rfl, rfl, by simp [go_sem, World.cell?_alloc_past, *], by simp [go_sem, World.cell?_alloc_past, *], by simp [go_sem, World.cell?_alloc_past, *], by simp [go_sem, World.cell?_alloc_past, *], by simp [go_sem, World.cell?_alloc_past, *], by simp [go_sem, World.cell?_alloc_past, *], by intro j; simp [go_sem, *], by omega, by omega, (by (repeat (first | (with_reducible refine Below.drew ?_) | (with_reducible refine below_drewN ?_ _) | (with_reducible refine Below.alloc ?_ (by first | omega | (simp; done) | (simp; omega) | (simp at *; omega)) _) | (with_reducible refine Below.setCell ?_ (by first | omega | (simp; done) | (simp; omega) | (simp at *; omega)) _) | (with_reducible exact Below.refl _ _) | (with_reducible assumption) | (with_reducible refine Below.trans ?_ (Below.mono (by assumption) (by first | omega | (simp; done) | (simp; omega) | (simp at *; omega)))))))⟩
        · skip
          go_simp
          go_wp2_with fail
          refine hK.out _ _ (by simp [go_sem, World.cell?_alloc_past, *]) (fun hHeld => ?_)
          clear hK K
          try simp only [Act.put, sA, sB, sC]
          refine wpAnyH_ready (rs := [11]) (by kernel_rfl) (by simp) ?_
          refine AllReadyH.cons rfl (fun K hK => ?_) (AllReadyH.nil)
          go_simp
          refine (cosine_is b 2 k2 a2 b2 _ m2 (by first | omega | (simp; omega)) (Lib.hid (HA.out _ (by (repeat (first | (with_reducible refine Below.drew ?_) | (with_reducible refine below_drewN ?_ _) | (with_reducible refine Below.alloc ?_ (by first | omega | (simp; done) | (simp; omega) | (simp at *; omega)) _) | (with_reducible refine Below.setCell ?_ (by first | omega | (simp; done) | (simp; omega) | (simp at *; omega)) _) | (with_reducible exact Below.refl _ _) | (with_reducible assumption) | (with_reducible refine Below.trans ?_ (Below.mono (by assumption) (by first | omega | (simp; done) | (simp; omega) | (simp at *; omega))))))))) q2).mono ?_
          rintro e xw3 ⟨rfl, hbx3⟩
          have zx3 := hbx3.size
          try simp at zx3
          obtain ⟨x3_0_0, x3_0_1, x3_1_0, x3_1_1, x3_2_0, x3_2_1, x3_3_0, x3_3_1⟩ : xw3.cell? ⟨w.heap.size + 1, 0, none⟩ = some (.int .i64 0) ∧ xw3.cell? ⟨w.heap.size + 1, 1, none⟩ = some (.int .i64 0) ∧ xw3.cell? ⟨xw1.heap.size, 0, none⟩ = some (.int .i64 ((k1 : Int))) ∧ xw3.cell? ⟨xw1.heap.size, 1, none⟩ = some (.int .i64 ((k2 : Int))) ∧ xw3.cell? ⟨xw2.heap.size, 0, none⟩ = some (.int .i64 0) ∧ xw3.cell? ⟨xw2.heap.size, 1, none⟩ = some (.int .i64 0) ∧ xw3.cell? ⟨xw2.heap.size + 1, 0, none⟩ = some (.int .i64 0) ∧ xw3.cell? ⟨xw2.heap.size + 1, 1, none⟩ = some (.int .i64 0) := by refine ⟨?_, ?_, ?_, ?_, ?_, ?_, ?_, ?_⟩ <;> (rw [(bcell hbx3).1 _ _ (by first | (simp; done) | (simp; omega) | omega)]; simp [go_sem, World.cell?_alloc_past, *])
          obtain ⟨x3f0, x3f2, x3f3⟩ : (∀ j, xw3.frozen? ⟨w.heap.size + 1, j, none⟩ = false) ∧ (∀ j, xw3.frozen? ⟨xw2.heap.size, j, none⟩ = false) ∧ (∀ j, xw3.frozen? ⟨xw2.heap.size + 1, j, none⟩ = false) := by refine ⟨?_, ?_, ?_⟩ <;> (intro j; rw [(bcell hbx3).2 _ _ (by first | (simp; done) | (simp; omega) | omega)]; simp [go_sem, *])
          obtain ⟨x3o0, x3n0, x3m0, x3t0_0, x3t0_1, x3o1, x3n1, x3m1, x3t1_0, x3t1_1, x3o2, x3n2, x3m2, x3t2_0, x3t2_1, x3o3, x3n3, x3m3, x3t3_0, x3t3_1⟩ : w.heap.size + 1 < xw3.heap.size ∧ xw3.heap.size ≠ w.heap.size + 1 ∧ w.heap.size + 1 ≠ xw3.heap.size ∧ w.heap.size + 1 < xw3.heap.size + 1 ∧ w.heap.size + 1 < xw3.heap.size + 1 + 1 ∧ xw1.heap.size < xw3.heap.size ∧ xw3.heap.size ≠ xw1.heap.size ∧ xw1.heap.size ≠ xw3.heap.size ∧ xw1.heap.size < xw3.heap.size + 1 ∧ xw1.heap.size < xw3.heap.size + 1 + 1 ∧ xw2.heap.size < xw3.heap.size ∧ xw3.heap.size ≠ xw2.heap.size ∧ xw2.heap.size ≠ xw3.heap.size ∧ xw2.heap.size < xw3.heap.size + 1 ∧ xw2.heap.size < xw3.heap.size + 1 + 1 ∧ xw2.heap.size + 1 < xw3.heap.size ∧ xw3.heap.size ≠ xw2.heap.size + 1 ∧ xw2.heap.size + 1 ≠ xw3.heap.size ∧ xw2.heap.size + 1 < xw3.heap.size + 1 ∧ xw2.heap.size + 1 < xw3.heap.size + 1 + 1 := by refine ⟨?_, ?_, ?_, ?_, ?_, ?_, ?_, ?_, ?_, ?_, ?_, ?_, ?_, ?_, ?_, ?_, ?_, ?_, ?_, ?_⟩ <;> omega
          have hBx3 : Below w.heap.size w xw3 := (by (repeat (first | (with_reducible refine Below.drew ?_) | (with_reducible refine below_drewN ?_ _) | (with_reducible refine Below.alloc ?_ (by first | omega | (simp; done) | (simp; omega) | (simp at *; omega)) _) | (with_reducible refine Below.setCell ?_ (by first | omega | (simp; done) | (simp; omega) | (simp at *; omega)) _) | (with_reducible exact Below.refl _ _) | (with_reducible assumption) | (with_reducible refine Below.trans ?_ (Below.mono (by assumption) (by first | omega | (simp; done) | (simp; omega) | (simp at *; omega)))))))
          clear hbx3 x2_0_0 x2_0_1 x2_1_0 x2_1_1 x2f0 x2o0 x2n0 x2m0 x2t0_0 x2t0_1 x2o1 x2n1 x2m1 x2t1_0 x2t1_1 hBx2
          go_wp2_with fail
          refine hK.out _ _ (by simp [go_sem, World.cell?_alloc_past, *]) (fun hHeld => ?_)
          clear hK K
          try simp only [Act.put, sA, sB, sC]
          refine wpAnyH_ready (rs := [14]) (by kernel_rfl) (by simp) ?_
          refine AllReadyH.cons rfl (fun K hK => ?_) (AllReadyH.nil)
          go_simp
          go_wp2_with fail
          refine hK.out _ _ (by simp [go_sem, World.cell?_alloc_past, *]) (fun hHeld => ?_)
          clear hK K
          try simp only [Act.put, sA, sB, sC]
          refine wpAnyH_ready (rs := [15]) (by kernel_rfl) (by simp) ?_
          refine AllReadyH.cons rfl (fun K hK => ?_) (AllReadyH.nil)
          go_simp
          go_wp2_with fail
          refine hK.out _ _ (by simp [go_sem, World.cell?_alloc_past, *]) (fun hHeld => ?_)
          clear hK K
          try simp only [Act.put, sA, sB, sC]
          refine wpAnyH_done (by kernel_rfl) ?_ _
          go_wp2_with fail
          go_meet
          exact ⟨xw2.heap.size, xw2.heap.size + 1, rfl, rfl, by simp [go_sem, World.cell?_alloc_past, *], by simp [go_sem, World.cell?_alloc_past, *], by simp [go_sem, World.cell?_alloc_past, *], by simp [go_sem, World.cell?_alloc_past, *], by simp [go_sem, World.cell?_alloc_past, *], by simp [go_sem, World.cell?_alloc_past, *], by intro j; simp [go_sem, *], by omega, by omega, (by (repeat (first | (with_reducible refine Below.drew ?_) | (with_reducible refine below_drewN ?_ _) | (with_reducible refine Below.alloc ?_ (by first | omega | (simp; done) | (simp; omega) | (simp at *; omega)) _) | (with_reducible refine Below.setCell ?_ (by first | omega | (simp; done) | (simp; omega) | (simp at *; omega)) _) | (with_reducible exact Below.refl _ _) | (with_reducible assumption) | (with_reducible refine Below.trans ?_ (Below.mono (by assumption) (by first | omega | (simp; done) | (simp; omega) | (simp at *; omega)))))))⟩
      · skip
        go_simp
        go_wp2_with fail
        refine hK.out _ _ (by simp [go_sem, World.cell?_alloc_past, *]) (fun hHeld => ?_)
        clear hK K
        try simp only [Act.put, sA, sB, sC]
        refine wpAnyH_ready (rs := [11, 12]) (by kernel_rfl) (by simp) ?_
        refine AllReadyH.cons rfl (fun K hK => ?_) (AllReadyH.cons rfl (fun K hK => ?_) (AllReadyH.nil))
        · skip
          go_simp
          refine (cosine_is b 2 k2 a2 b2 _ m2 (by first | omega | (simp; omega)) (Lib.hid (HA.out _ (by (repeat (first | (with_reducible refine Below.drew ?_) | (with_reducible refine below_drewN ?_ _) | (with_reducible refine Below.alloc ?_ (by first | omega | (simp; done) | (simp; omega) | (simp at *; omega)) _) | (with_reducible refine Below.setCell ?_ (by first | omega | (simp; done) | (simp; omega) | (simp at *; omega)) _) | (with_reducible exact Below.refl _ _) | (with_reducible assumption) | (with_reducible refine Below.trans ?_ (Below.mono (by assumption) (by first | omega | (simp; done) | (simp; omega) | (simp at *; omega))))))))) q2).mono ?_
          rintro e xw3 ⟨rfl, hbx3⟩
          have zx3 := hbx3.size
          try simp at zx3
          obtain ⟨x3_0_0, x3_0_1, x3_1_0, x3_1_1, x3_2_0, x3_2_1⟩ : xw3.cell? ⟨w.heap.size + 1, 0, none⟩ = some (.int .i64 0) ∧ xw3.cell? ⟨w.heap.size + 1, 1, none⟩ = some (.int .i64 0) ∧ xw3.cell? ⟨xw1.heap.size, 0, none⟩ = some (.int .i64 ((k1 : Int))) ∧ xw3.cell? ⟨xw1.heap.size, 1, none⟩ = some (.int .i64 ((k2 : Int))) ∧ xw3.cell? ⟨xw2.heap.size, 0, none⟩ = some (.int .i64 0) ∧ xw3.cell? ⟨xw2.heap.size, 1, none⟩ = some (.int .i64 0) := by refine ⟨?_, ?_, ?_, ?_, ?_, ?_⟩ <;> (rw [(bcell hbx3).1 _ _ (by first | (simp; done) | (simp; omega) | omega)]; simp [go_sem, World.cell?_alloc_past, *])
          obtain ⟨x3f0, x3f2⟩ : (∀ j, xw3.frozen? ⟨w.heap.size + 1, j, none⟩ = false) ∧ (∀ j, xw3.frozen? ⟨xw2.heap.size, j, none⟩ = false) := by refine ⟨?_, ?_⟩ <;> (intro j; rw [(bcell hbx3).2 _ _ (by first | (simp; done) | (simp; omega) | omega)]; simp [go_sem, *])
          obtain ⟨x3o0, x3n0, x3m0, x3t0_0, x3t0_1, x3o1, x3n1, x3m1, x3t1_0, x3t1_1, x3o2, x3n2, x3m2, x3t2_0, x3t2_1⟩ : w.heap.size + 1 < xw3.heap.size ∧ xw3.heap.size ≠ w.heap.size + 1 ∧ w.heap.size + 1 ≠ xw3.heap.size ∧ w.heap.size + 1 < xw3.heap.size + 1 ∧ w.heap.size + 1 < xw3.heap.size + 1 + 1 ∧ xw1.heap.size < xw3.heap.size ∧ xw3.heap.size ≠ xw1.heap.size ∧ xw1.heap.size ≠ xw3.heap.size ∧ xw1.heap.size < xw3.heap.size + 1 ∧ xw1.heap.size < xw3.heap.size + 1 + 1 ∧ xw2.heap.size < xw3.heap.size ∧ xw3.heap.size ≠ xw2.heap.size ∧ xw2.heap.size ≠ xw3.heap.size ∧ xw2.heap.size < xw3.heap.size + 1 ∧ xw2.heap.size < xw3.heap.size + 1 + 1 := by refine ⟨?_, ?_, ?_, ?_, ?_, ?_, ?_, ?_, ?_, ?_, ?_, ?_, ?_, ?_, ?_⟩ <;> omega
          have hBx3 : Below w.heap.size w xw3 := (by (repeat (first | (with_reducible refine Below.drew ?_) | (with_reducible refine below_drewN ?_ _) | (with_reducible refine Below.alloc ?_ (by first | omega | (simp; done) | (simp; omega) | (simp at *; omega)) _) | (with_reducible refine Below.setCell ?_ (by first | omega | (simp; done) | (simp; omega) | (simp at *; omega)) _) | (with_reducible exact Below.refl _ _) | (with_reducible assumption) | (with_reducible refine Below.trans ?_ (Below.mono (by assumption) (by first | omega | (simp; done) | (simp; omega) | (simp at *; omega)))))))
          clear hbx3 x2_0_0 x2_0_1 x2_1_0 x2_1_1 x2f0 x2o0 x2n0 x2m0 x2t0_0 x2t0_1 x2o1 x2n1 x2m1 x2t1_0 x2t1_1 hBx2
          go_wp2_with fail
          refine hK.out _ _ (by simp [go_sem, World.cell?_alloc_past, *]) (fun hHeld => ?_)
          clear hK K
          try simp only [Act.put, sA, sB, sC]
          refine wpAnyH_ready (rs := [12]) (by kernel_rfl) (by simp) ?_
          refine AllReadyH.cons rfl (fun K hK => ?_) (AllReadyH.nil)
          go_simp
          go_wp2_with fail
          refine hK.out _ _ (by simp [go_sem, World.cell?_alloc_past, *]) (fun hHeld => ?_)
          clear hK K
          try simp only [Act.put, sA, sB, sC]
          refine wpAnyH_ready (rs := [14]) (by kernel_rfl) (by simp) ?_
          refine AllReadyH.cons rfl (fun K hK => ?_) (AllReadyH.nil)
          go_simp
          go_wp2_with fail
          refine hK.out _ _ (by simp [go_sem, World.cell?_alloc_past, *]) (fun hHeld => ?_)
          clear hK K
          try simp only [Act.put, sA, sB, sC]
          refine wpAnyH_ready (rs := [15]) (by kernel_rfl) (by simp) ?_
          refine AllReadyH.cons rfl (fun K hK => ?_) (AllReadyH.nil)
          go_simp
          go_wp2_with fail
          refine hK.out _ _ (by simp [go_sem, World.cell?_alloc_past, *]) (fun hHeld => ?_)
          clear hK K
          try simp only [Act.put, sA, sB, sC]
          refine wpAnyH_done (by kernel_rfl) ?_ _
          go_wp2_with fail
          go_meet
          exact ⟨xw3.heap.size, xw2.heap.size, rfl, rfl, by simp [go_sem, World.cell?_alloc_past, *], by simp [go_sem, World.cell?_alloc_past, *], by simp [go_sem, World.cell?_alloc_past, *], by simp [go_sem, World.cell?_alloc_past, *], by simp [go_sem, World.cell?_alloc_past, *], by simp [go_sem, World.cell?_alloc_past, *], by intro j; simp [go_sem, *], by omega, by omega, (by (repeat (first | (with_reducible refine Below.drew ?_) | (with_reducible refine below_drewN ?_ _) | (with_reducible refine Below.alloc ?_ (by first | omega | (simp; done) | (simp; omega) | (simp at *; omega)) _) | (with_reducible refine Below.setCell ?_ (by first | omega | (simp; done) | (simp; omega) | (simp at *; omega)) _) | (with_reducible exact Below.refl _ _) | (with_reducible assumption) | (with_reducible refine Below.trans ?_ (Below.mono (by assumption) (by first | omega | (simp; done) | (simp; omega) | (simp at *; omega)))))))⟩
        · skip
          go_simp
          go_wp2_with fail
          refine hK.out _ _ (by simp [go_sem, World.cell?_alloc_past, *]) (fun hHeld => ?_)
          clear hK K
          try simp only [Act.put, sA, sB, sC]
          refine wpAnyH_ready (rs := [11]) (by kernel_rfl) (by simp) ?_
          refine AllReadyH.cons rfl (fun K hK => ?_) (AllReadyH.nil)
          go_simp
          refine (cosine_is b 2 k2 a2 b2 _ m2 (by first | omega | (simp; omega)) (Lib.hid (HA.out _ (by (repeat (first | (with_reducible refine Below.drew ?_) | (with_reducible refine below_drewN ?_ _) | (with_reducible refine Below.alloc ?_ (by first | omega | (simp; done) | (simp; omega) | (simp at *; omega)) _) | (with_reducible refine Below.setCell ?_ (by first | omega | (simp; done) | (simp; omega) | (simp at *; omega)) _) | (with_reducible exact Below.refl _ _) | (with_reducible assumption) | (with_reducible refine Below.trans ?_ (Below.mono (by assumption) (by first | omega | (simp; done) | (simp; omega) | (simp at *; omega))))))))) q2).mono ?_
          rintro e xw3 ⟨rfl, hbx3⟩
          have zx3 := hbx3.size
          try simp at zx3
          obtain ⟨x3_0_0, x3_0_1, x3_1_0, x3_1_1, x3_2_0, x3_2_1, x3_3_0, x3_3_1⟩ : xw3.cell? ⟨w.heap.size + 1, 0, none⟩ = some (.int .i64 0) ∧ xw3.cell? ⟨w.heap.size + 1, 1, none⟩ = some (.int .i64 0) ∧ xw3.cell? ⟨xw1.heap.size, 0, none⟩ = some (.int .i64 ((k1 : Int))) ∧ xw3.cell? ⟨xw1.heap.size, 1, none⟩ = some (.int .i64 ((k2 : Int))) ∧ xw3.cell? ⟨xw2.heap.size, 0, none⟩ = some (.int .i64 0) ∧ xw3.cell? ⟨xw2.heap.size, 1, none⟩ = some (.int .i64 0) ∧ xw3.cell? ⟨xw2.heap.size + 1, 0, none⟩ = some (.int .i64 0) ∧ xw3.cell? ⟨xw2.heap.size + 1, 1, none⟩ = some (.int .i64 0) := by refine ⟨?_, ?_, ?_, ?_, ?_, ?_, ?_, ?_⟩ <;> (rw [(bcell hbx3).1 _ _ (by first | (simp; done) | (simp; omega) | omega)]; simp [go_sem, World.cell?_alloc_past, *])
          obtain ⟨x3f0, x3f2, x3f3⟩ : (∀ j, xw3.frozen? ⟨w.heap.size + 1, j, none⟩ = false) ∧ (∀ j, xw3.frozen? ⟨xw2.heap.size, j, none⟩ = false) ∧ (∀ j, xw3.frozen? ⟨xw2.heap.size + 1, j, none⟩ = false) := by refine ⟨?_, ?_, ?_⟩ <;> (intro j; rw [(bcell hbx3).2 _ _ (by first | (simp; done) | (simp; omega) | omega)]; simp [go_sem, *])
          obtain ⟨x3o0, x3n0, x3m0, x3t0_0, x3t0_1, x3o1, x3n1, x3m1, x3t1_0, x3t1_1, x3o2, x3n2, x3m2, x3t2_0, x3t2_1, x3o3, x3n3, x3m3, x3t3_0, x3t3_1⟩ : w.heap.size + 1 < xw3.heap.size ∧ xw3.heap.size ≠ w.heap.size + 1 ∧ w.heap.size + 1 ≠ xw3.heap.size ∧ w.heap.size + 1 < xw3.heap.size + 1 ∧ w.heap.size + 1 < xw3.heap.size + 1 + 1 ∧ xw1.heap.size < xw3.heap.size ∧ xw3.heap.size ≠ xw1.heap.size ∧ xw1.heap.size ≠ xw3.heap.size ∧ xw1.heap.size < xw3.heap.size + 1 ∧ xw1.heap.size < xw3.heap.size + 1 + 1 ∧ xw2.heap.size < xw3.heap.size ∧ xw3.heap.size ≠ xw2.heap.size ∧ xw2.heap.size ≠ xw3.heap.size ∧ xw2.heap.size < xw3.heap.size + 1 ∧ xw2.heap.size < xw3.heap.size + 1 + 1 ∧ xw2.heap.size + 1 < xw3.heap.size ∧ xw3.heap.size ≠ xw2.heap.size + 1 ∧ xw2.heap.size + 1 ≠ xw3.heap.size ∧ xw2.heap.size + 1 < xw3.heap.size + 1 ∧ xw2.heap.size + 1 < xw3.heap.size + 1 + 1 := by refine ⟨?_, ?_, ?_, ?_, ?_, ?_, ?_, ?_, ?_, ?_, ?_, ?_, ?_, ?_, ?_, ?_, ?_, ?_, ?_, ?_⟩ <;> omega
          have hBx3 : Below w.heap.size w xw3 := (by (repeat (first | (with_reducible refine Below.drew ?_) | (with_reducible refine below_drewN ?_ _) | (with_reducible refine Below.alloc ?_ (by first | omega | (simp; done) | (simp; omega) | (simp at *; omega)) _) | (with_reducible refine Below.setCell ?_ (by first | omega | (simp; done) | (simp; omega) | (simp at *; omega)) _) | (with_reducible exact Below.refl _ _) | (with_reducible assumption) | (with_reducible refine Below.trans ?_ (Below.mono (by assumption) (by first | omega | (simp; done) | (simp; omega) | (simp at *; omega)))))))
          clear hbx3 x2_0_0 x2_0_1 x2_1_0 x2_1_1 x2f0 x2o0 x2n0 x2m0 x2t0_0 x2t0_1 x2o1 x2n1 x2m1 x2t1_0 x2t1_1 hBx2
          go_wp2_with fail
          refine hK.out _ _ (by simp [go_sem, World.cell?_alloc_past, *]) (fun hHeld => ?_)
          clear hK K
          try simp only [Act.put, sA, sB, sC]
          refine wpAnyH_ready (rs := [14]) (by kernel_rfl) (by simp) ?_
          refine AllReadyH.cons rfl (fun K hK => ?_) (AllReadyH.nil)
          go_simp
          go_wp2_with fail
          refine hK.out _ _ (by simp [go_sem, World.cell?_alloc_past, *]) (fun hHeld => ?_)
          clear hK K
          try simp only [Act.put, sA, sB, sC]
          refine wpAnyH_ready (rs := [15]) (by kernel_rfl) (by simp) ?_
          refine AllReadyH.cons rfl (fun K hK => ?_) (AllReadyH.nil)
          go_simp
          go_wp2_with fail
          refine hK.out _ _ (by simp [go_sem, World.cell?_alloc_past, *]) (fun hHeld => ?_)
          clear hK K
          try simp only [Act.put, sA, sB, sC]
          refine wpAnyH_done (by kernel_rfl) ?_ _
          go_wp2_with fail
          go_meet
          exact ⟨xw2.heap.size + 1, xw2.heap.size, rfl, rfl, by simp [go_sem, World.cell?_alloc_past, *], by simp [go_sem, World.cell?_alloc_past, *], by simp [go_sem, World.cell?_alloc_past, *], by simp [go_sem, World.cell?_alloc_past, *], by simp [go_sem, World.cell?_alloc_past, *], by simp [go_sem, World.cell?_alloc_past, *], by intro j; simp [go_sem, *], by omega, by omega, (by (repeat (first | (with_reducible refine Below.drew ?_) | (with_reducible refine below_drewN ?_ _) | (with_reducible refine Below.alloc ?_ (by first | omega | (simp; done) | (simp; omega) | (simp at *; omega)) _) | (with_reducible refine Below.setCell ?_ (by first | omega | (simp; done) | (simp; omega) | (simp at *; omega)) _) | (with_reducible exact Below.refl _ _) | (with_reducible assumption) | (with_reducible refine Below.trans ?_ (Below.mono (by assumption) (by first | omega | (simp; done) | (simp; omega) | (simp at *; omega)))))))⟩
    · skip
      go_simp
      go_wp2_with fail
      refine hK.out _ _ (by simp [go_sem, World.cell?_alloc_past, *]) (fun hHeld => ?_)
      clear hK K
      try simp only [Act.put, sA, sB, sC]
      refine wpAnyH_ready (rs := [5, 13]) (by kernel_rfl) (by simp) ?_
      refine AllReadyH.cons rfl (fun K hK => ?_) (AllReadyH.cons rfl (fun K hK => ?_) (AllReadyH.nil))
      · skip
        go_simp
        refine (cosine_is b 2 k1 a1 b1 _ m1 (by first | omega | (simp; omega)) (Lib.hid (HA.out _ (by (repeat (first | (with_reducible refine Below.drew ?_) | (with_reducible refine below_drewN ?_ _) | (with_reducible refine Below.alloc ?_ (by first | omega | (simp; done) | (simp; omega) | (simp at *; omega)) _) | (with_reducible refine Below.setCell ?_ (by first | omega | (simp; done) | (simp; omega) | (simp at *; omega)) _) | (with_reducible exact Below.refl _ _) | (with_reducible assumption) | (with_reducible refine Below.trans ?_ (Below.mono (by assumption) (by first | omega | (simp; done) | (simp; omega) | (simp at *; omega))))))))) q1).mono ?_
        rintro e xw2 ⟨rfl, hbx2⟩
        have zx2 := hbx2.size
        try simp at zx2
        obtain ⟨x2_0_0, x2_0_1, x2_1_0, x2_1_1, x2_2_0, x2_2_1⟩ : xw2.cell? ⟨w.heap.size + 1, 0, none⟩ = some (.int .i64 0) ∧ xw2.cell? ⟨w.heap.size + 1, 1, none⟩ = some (.int .i64 0) ∧ xw2.cell? ⟨xw1.heap.size, 0, none⟩ = some (.int .i64 ((k1 : Int))) ∧ xw2.cell? ⟨xw1.heap.size, 1, none⟩ = some (.int .i64 ((k2 : Int))) ∧ xw2.cell? ⟨xw1.heap.size + 1, 0, none⟩ = some (.int .i64 0) ∧ xw2.cell? ⟨xw1.heap.size + 1, 1, none⟩ = some (.int .i64 0) := by refine ⟨?_, ?_, ?_, ?_, ?_, ?_⟩ <;> (rw [(bcell hbx2).1 _ _ (by first | (simp; done) | (simp; omega) | omega)]; simp [go_sem, World.cell?_alloc_past, *])
        obtain ⟨x2f0, x2f2⟩ : (∀ j, xw2.frozen? ⟨w.heap.size + 1, j, none⟩ = false) ∧ (∀ j, xw2.frozen? ⟨xw1.heap.size + 1, j, none⟩ = false) := by refine ⟨?_, ?_⟩ <;> (intro j; rw [(bcell hbx2).2 _ _ (by first | (simp; done) | (simp; omega) | omega)]; simp [go_sem, *])
        obtain ⟨x2o0, x2n0, x2m0, x2t0_0, x2t0_1, x2o1, x2n1, x2m1, x2t1_0, x2t1_1, x2o2, x2n2, x2m2, x2t2_0, x2t2_1⟩ : w.heap.size + 1 < xw2.heap.size ∧ xw2.heap.size ≠ w.heap.size + 1 ∧ w.heap.size + 1 ≠ xw2.heap.size ∧ w.heap.size + 1 < xw2.heap.size + 1 ∧ w.heap.size + 1 < xw2.heap.size + 1 + 1 ∧ xw1.heap.size < xw2.heap.size ∧ xw2.heap.size ≠ xw1.heap.size ∧ xw1.heap.size ≠ xw2.heap.size ∧ xw1.heap.size < xw2.heap.size + 1 ∧ xw1.heap.size < xw2.heap.size + 1 + 1 ∧ xw1.heap.size + 1 < xw2.heap.size ∧ xw2.heap.size ≠ xw1.heap.size + 1 ∧ xw1.heap.size + 1 ≠ xw2.heap.size ∧ xw1.heap.size + 1 < xw2.heap.size + 1 ∧ xw1.heap.size + 1 < xw2.heap.size + 1 + 1 := by refine ⟨?_, ?_, ?_, ?_, ?_, ?_, ?_, ?_, ?_, ?_, ?_, ?_, ?_, ?_, ?_⟩ <;> omega
        have hBx2 : Below w.heap.size w xw2 := (by (repeat (first | (with_reducible refine Below.drew ?_) | (with_reducible refine below_drewN ?_ _) | (with_reducible refine Below.alloc ?_ (by first | omega | (simp; done) | (simp; omega) | (simp at *; omega)) _) | (with_reducible refine Below.setCell ?_ (by first | omega | (simp; done) | (simp; omega) | (simp at *; omega)) _) | (with_reducible exact Below.refl _ _) | (with_reducible assumption) | (with_reducible refine Below.trans ?_ (Below.mono (by assumption) (by first | omega | (simp; done) | (simp; omega) | (simp at *; omega)))))))
        clear hbx2 x1_0_0 x1_0_1 x1f0 x1o0 x1n0 x1m0 x1t0_0 x1t0_1 hBx1
        go_wp2_with fail
        refine hK.out _ _ (by simp [go_sem, World.cell?_alloc_past, *]) (fun hHeld => ?_)
        clear hK K
        try simp only [Act.put, sA, sB, sC]
        refine wpAnyH_ready (rs := [11, 13]) (by kernel_rfl) (by simp) ?_
        refine AllReadyH.cons rfl (fun K hK => ?_) (AllReadyH.cons rfl (fun K hK => ?_) (AllReadyH.nil))
        · skip
          go_simp
          refine (cosine_is b 2 k2 a2 b2 _ m2 (by first | omega | (simp; omega)) (Lib.hid (HA.out _ (by (repeat (first | (with_reducible refine Below.drew ?_) | (with_reducible refine below_drewN ?_ _) | (with_reducible refine Below.alloc ?_ (by first | omega | (simp; done) | (simp; omega) | (simp at *; omega)) _) | (with_reducible refine Below.setCell ?_ (by first | omega | (simp; done) | (simp; omega) | (simp at *; omega)) _) | (with_reducible exact Below.refl _ _) | (with_reducible assumption) | (with_reducible refine Below.trans ?_ (Below.mono (by assumption) (by first | omega | (simp; done) | (simp; omega) | (simp at *; omega))))))))) q2).mono ?_
          rintro e xw3 ⟨rfl, hbx3⟩
          have zx3 := hbx3.size
          try simp at zx3
          obtain ⟨x3_0_0, x3_0_1, x3_1_0, x3_1_1, x3_2_0, x3_2_1⟩ : xw3.cell? ⟨w.heap.size + 1, 0, none⟩ = some (.int .i64 0) ∧ xw3.cell? ⟨w.heap.size + 1, 1, none⟩ = some (.int .i64 0) ∧ xw3.cell? ⟨xw1.heap.size, 0, none⟩ = some (.int .i64 ((k1 : Int))) ∧ xw3.cell? ⟨xw1.heap.size, 1, none⟩ = some (.int .i64 ((k2 : Int))) ∧ xw3.cell? ⟨xw1.heap.size + 1, 0, none⟩ = some (.int .i64 0) ∧ xw3.cell? ⟨xw1.heap.size + 1, 1, none⟩ = some (.int .i64 0) := by refine ⟨?_, ?_, ?_, ?_, ?_, ?_⟩ <;> (rw [(bcell hbx3).1 _ _ (by first | (simp; done) | (simp; omega) | omega)]; simp [go_sem, World.cell?_alloc_past, *])
          obtain ⟨x3f0, x3f2⟩ : (∀ j, xw3.frozen? ⟨w.heap.size + 1, j, none⟩ = false) ∧ (∀ j, xw3.frozen? ⟨xw1.heap.size + 1, j, none⟩ = false) := by refine ⟨?_, ?_⟩ <;> (intro j; rw [(bcell hbx3).2 _ _ (by first | (simp; done) | (simp; omega) | omega)]; simp [go_sem, *])
          obtain ⟨x3o0, x3n0, x3m0, x3t0_0, x3t0_1, x3o1, x3n1, x3m1, x3t1_0, x3t1_1, x3o2, x3n2, x3m2, x3t2_0, x3t2_1⟩ : w.heap.size + 1 < xw3.heap.size ∧ xw3.heap.size ≠ w.heap.size + 1 ∧ w.heap.size + 1 ≠ xw3.heap.size ∧ w.heap.size + 1 < xw3.heap.size + 1 ∧ w.heap.size + 1 < xw3.heap.size + 1 + 1 ∧ xw1.heap.size < xw3.heap.size ∧ xw3.heap.size ≠ xw1.heap.size ∧ xw1.heap.size ≠ xw3.heap.size ∧ xw1.heap.size < xw3.heap.size + 1 ∧ xw1.heap.size < xw3.heap.size + 1 + 1 ∧ xw1.heap.size + 1 < xw3.heap.size ∧ xw3.heap.size ≠ xw1.heap.size + 1 ∧ xw1.heap.size + 1 ≠ xw3.heap.size ∧ xw1.heap.size + 1 < xw3.heap.size + 1 ∧ xw1.heap.size + 1 < xw3.heap.size + 1 + 1 := by refine ⟨?_, ?_, ?_, ?_, ?_, ?_, ?_, ?_, ?_, ?_, ?_, ?_, ?_, ?_, ?_⟩ <;> omega
          have hBx3 : Below w.heap.size w xw3 := (by (repeat (first | (with_reducible refine Below.drew ?_) | (with_reducible refine below_drewN ?_ _) | (with_reducible refine Below.alloc ?_ (by first | omega | (simp; done) | (simp; omega) | (simp at *; omega)) _) | (with_reducible refine Below.setCell ?_ (by first | omega | (simp; done) | (simp; omega) | (simp at *; omega)) _) | (with_reducible exact Below.refl _ _) | (with_reducible assumption) | (with_reducible refine Below.trans ?_ (Below.mono (by assumption) (by first | omega | (simp; done) | (simp; omega) | (simp at *; omega)))))))
          clear hbx3 x2_0_0 x2_0_1 x2_1_0 x2_1_1 x2_2_0 x2_2_1 x2f0 x2f2 x2o0 x2n0 x2m0 x2t0_0 x2t0_1 x2o1 x2n1 x2m1 x2t1_0 x2t1_1 x2o2 x2n2 x2m2 x2t2_0 x2t2_1 hBx2
          go_wp2_with fail
          refine hK.out _ _ (by simp [go_sem, World.cell?_alloc_past, *]) (fun hHeld => ?_)
          clear hK K
          try simp only [Act.put, sA, sB, sC]
          refine wpAnyH_ready (rs := [13]) (by kernel_rfl) (by simp) ?_
          refine AllReadyH.cons rfl (fun K hK => ?_) (AllReadyH.nil)
          go_simp
          go_wp2_with fail
          refine hK.out _ _ (by simp [go_sem, World.cell?_alloc_past, *]) (fun hHeld => ?_)
          clear hK K
          try simp only [Act.put, sA, sB, sC]
          refine wpAnyH_ready (rs := [14]) (by kernel_rfl) (by simp) ?_
          refine AllReadyH.cons rfl (fun K hK => ?_) (AllReadyH.nil)
          go_simp
          go_wp2_with fail
          refine hK.out _ _ (by simp [go_sem, World.cell?_alloc_past, *]) (fun hHeld => ?_)
          clear hK K
          try simp only [Act.put, sA, sB, sC]
          refine wpAnyH_ready (rs := [15]) (by kernel_rfl) (by simp) ?_
          refine AllReadyH.cons rfl (fun K hK => ?_) (AllReadyH.nil)
          go_simp
          go_wp2_with fail
          refine hK.out _ _ (by simp [go_sem, World.cell?_alloc_past, *]) (fun hHeld => ?_)
          clear hK K
          try simp only [Act.put, sA, sB, sC]
          refine wpAnyH_done (by kernel_rfl) ?_ _
          go_wp2_with fail
          go_meet
          exact ⟨xw1.heap.size + 1, xw3.heap.size, rfl, rfl, by simp [go_sem, World.cell?_alloc_past, *], by simp [go_sem, World.cell?_alloc_past, *], by simp [go_sem, World.cell?_alloc_past, *], by simp [go_sem, World.cell?_alloc_past, *], by simp [go_sem, World.cell?_alloc_past, *], by simp [go_sem, World.cell?_alloc_past, *], by intro j; simp [go_sem, *], by omega, by omega, (by (repeat (first | (with_reducible refine Below.drew ?_) | (with_reducible refine below_drewN ?_ _) | (with_reducible refine Below.alloc ?_ (by first | omega | (simp; done) | (simp; omega) | (simp at *; omega)) _) | (with_reducible refine Below.setCell ?_ (by first | omega | (simp; done) | (simp; omega) | (simp at *; omega)) _) | (with_reducible exact Below.refl _ _) | (with_reducible assumption) | (with_reducible refine Below.trans ?_ (Below.mono (by assumption) (by first | omega | (simp; done) | (simp; omega) | (simp at *; omega)))))))⟩
        · skip
          go_simp
          go_wp2_with fail
          refine hK.out _ _ (by simp [go_sem, World.cell?_alloc_past, *]) (fun hHeld => ?_)
          clear hK K
          try simp only [Act.put, sA, sB, sC]
          refine wpAnyH_ready (rs := [11]) (by kernel_rfl) (by simp) ?_
          refine AllReadyH.cons rfl (fun K hK => ?_) (AllReadyH.nil)
          go_simp
          refine (cosine_is b 2 k2 a2 b2 _ m2 (by first | omega | (simp; omega)) (Lib.hid (HA.out _ (by (repeat (first | (with_reducible refine Below.drew ?_) | (with_reducible refine below_drewN ?_ _) | (with_reducible refine Below.alloc ?_ (by first | omega | (simp; done) | (simp; omega) | (simp at *; omega)) _) | (with_reducible refine Below.setCell ?_ (by first | omega | (simp; done) | (simp; omega) | (simp at *; omega)) _) | (with_reducible exact Below.refl _ _) | (with_reducible assumption) | (with_reducible refine Below.trans ?_ (Below.mono (by assumption) (by first | omega | (simp; done) | (simp; omega) | (simp at *; omega))))))))) q2).mono ?_
          rintro e xw3 ⟨rfl, hbx3⟩
          have zx3 := hbx3.size
          try simp at zx3
          obtain ⟨x3_0_0, x3_0_1, x3_1_0, x3_1_1, x3_2_0, x3_2_1, x3_3_0, x3_3_1⟩ : xw3.cell? ⟨w.heap.size + 1, 0, none⟩ = some (.int .i64 0) ∧ xw3.cell? ⟨w.heap.size + 1, 1, none⟩ = some (.int .i64 0) ∧ xw3.cell? ⟨xw1.heap.size, 0, none⟩ = some (.int .i64 ((k1 : Int))) ∧ xw3.cell? ⟨xw1.heap.size, 1, none⟩ = some (.int .i64 ((k2 : Int))) ∧ xw3.cell? ⟨xw1.heap.size + 1, 0, none⟩ = some (.int .i64 0) ∧ xw3.cell? ⟨xw1.heap.size + 1, 1, none⟩ = some (.int .i64 0) ∧ xw3.cell? ⟨xw2.heap.size, 0, none⟩ = some (.int .i64 0) ∧ xw3.cell? ⟨xw2.heap.size, 1, none⟩ = some (.int .i64 0) := by refine ⟨?_, ?_, ?_, ?_, ?_, ?_, ?_, ?_⟩ <;> (rw [(bcell hbx3).1 _ _ (by first | (simp; done) | (simp; omega) | omega)]; simp [go_sem, World.cell?_alloc_past, *])
          obtain ⟨x3f0, x3f2, x3f3⟩ : (∀ j, xw3.frozen? ⟨w.heap.size + 1, j, none⟩ = false) ∧ (∀ j, xw3.frozen? ⟨xw1.heap.size + 1, j, none⟩ = false) ∧ (∀ j, xw3.frozen? ⟨xw2.heap.size, j, none⟩ = false) := by refine ⟨?_, ?_, ?_⟩ <;> (intro j; rw [(bcell hbx3).2 _ _ (by first | (simp; done) | (simp; omega) | omega)]; simp [go_sem, *])
          obtain ⟨x3o0, x3n0, x3m0, x3t0_0, x3t0_1, x3o1, x3n1, x3m1, x3t1_0, x3t1_1, x3o2, x3n2, x3m2, x3t2_0, x3t2_1, x3o3, x3n3, x3m3, x3t3_0, x3t3_1⟩ : w.heap.size + 1 < xw3.heap.size ∧ xw3.heap.size ≠ w.heap.size + 1 ∧ w.heap.size + 1 ≠ xw3.heap.size ∧ w.heap.size + 1 < xw3.heap.size + 1 ∧ w.heap.size + 1 < xw3.heap.size + 1 + 1 ∧ xw1.heap.size < xw3.heap.size ∧ xw3.heap.size ≠ xw1.heap.size ∧ xw1.heap.size ≠ xw3.heap.size ∧ xw1.heap.size < xw3.heap.size + 1 ∧ xw1.heap.size < xw3.heap.size + 1 + 1 ∧ xw1.heap.size + 1 < xw3.heap.size ∧ xw3.heap.size ≠ xw1.heap.size + 1 ∧ xw1.heap.size + 1 ≠ xw3.heap.size ∧ xw1.heap.size + 1 < xw3.heap.size + 1 ∧ xw1.heap.size + 1 < xw3.heap.size + 1 + 1 ∧ xw2.heap.size < xw3.heap.size ∧ xw3.heap.size ≠ xw2.heap.size ∧ xw2.heap.size ≠ xw3.heap.size ∧ xw2.heap.size < xw3.heap.size + 1 ∧ xw2.heap.size < xw3.heap.size + 1 + 1 := by refine ⟨?_, ?_, ?_, ?_, ?_, ?_, ?_, ?_, ?_, ?_, ?_, ?_, ?_, ?_, ?_, ?_, ?_, ?_, ?_, ?_⟩ <;> omega
          have hBx3 : Below w.heap.size w xw3 := (by (repeat (first | (with_reducible refine Below.drew ?_) | (with_reducible refine below_drewN ?_ _) | (with_reducible refine Below.alloc ?_ (by first | omega | (simp; done) | (simp; omega) | (simp at *; omega)) _) | (with_reducible refine Below.setCell ?_ (by first | omega | (simp; done) | (simp; omega) | (simp at *; omega)) _) | (with_reducible exact Below.refl _ _) | (with_reducible assumption) | (with_reducible refine Below.trans ?_ (Below.mono (by assumption) (by first | omega | (simp; done) | (simp; omega) | (simp at *; omega)))))))
          clear hbx3 x2_0_0 x2_0_1 x2_1_0 x2_1_1 x2_2_0 x2_2_1 x2f0 x2f2 x2o0 x2n0 x2m0 x2t0_0 x2t0_1 x2o1 x2n1 x2m1 x2t1_0 x2t1_1 x2o2 x2n2 x2m2 x2t2_0 x2t2_1 hBx2
          go_wp2_with fail
          refine hK.out _ _ (by simp [go_sem, World.cell?_alloc_past, *]) (fun hHeld => ?_)
          clear hK K
          try simp only [Act.put, sA, sB, sC]
          refine wpAnyH_ready (rs := [14]) (by kernel_rfl) (by simp) ?_
          refine AllReadyH.cons rfl (fun K hK => ?_) (AllReadyH.nil)
          go_simp
          go_wp2_with fail
          refine hK.out _ _ (by simp [go_sem, World.cell?_alloc_past, *]) (fun hHeld => ?_)
          clear hK K
          try simp only [Act.put, sA, sB, sC]
          refine wpAnyH_ready (rs := [15]) (by kernel_rfl) (by simp) ?_
          refine AllReadyH.cons rfl (fun K hK => ?_) (AllReadyH.nil)
          go_simp
          go_wp2_with fail
          refine hK.out _ _ (by simp [go_sem, World.cell?_alloc_past, *]) (fun hHeld => ?_)
          clear hK K
          try simp only [Act.put, sA, sB, sC]
          refine wpAnyH_done (by kernel_rfl) ?_ _
          go_wp2_with fail
          go_meet
          exact ⟨xw1.heap.size + 1, xw2.heap.size, rfl, rfl, by simp [go_sem, World.cell?_alloc_past, *], by simp [go_sem, World.cell?_alloc_past, *], by simp [go_sem, World.cell?_alloc_past, *], by simp [go_sem, World.cell?_alloc_past, *], by simp [go_sem, World.cell?_alloc_past, *], by simp [go_sem, World.cell?_alloc_past, *], by intro j; simp [go_sem, *], by omega, by omega, (by (repeat (first | (with_reducible refine Below.drew ?_) | (with_reducible refine below_drewN ?_ _) | (with_reducible refine Below.alloc ?_ (by first | omega | (simp; done) | (simp; omega) | (simp at *; omega)) _) | (with_reducible refine Below.setCell ?_ (by first | omega | (simp; done) | (simp; omega) | (simp at *; omega)) _) | (with_reducible exact Below.refl _ _) | (with_reducible assumption) | (with_reducible refine Below.trans ?_ (Below.mono (by assumption) (by first | omega | (simp; done) | (simp; omega) | (simp at *; omega)))))))⟩
      · skip
        go_simp
        go_wp2_with fail
        refine hK.out _ _ (by simp [go_sem, World.cell?_alloc_past, *]) (fun hHeld => ?_)
        clear hK K
        try simp only [Act.put, sA, sB, sC]
        refine wpAnyH_ready (rs := [5]) (by kernel_rfl) (by simp) ?_
        refine AllReadyH.cons rfl (fun K hK => ?_) (AllReadyH.nil)
        go_simp
        refine (cosine_is b 2 k1 a1 b1 _ m1 (by first | omega | (simp; omega)) (Lib.hid (HA.out _ (by (repeat (first | (with_reducible refine Below.drew ?_) | (with_reducible refine below_drewN ?_ _) | (with_reducible refine Below.alloc ?_ (by first | omega | (simp; done) | (simp; omega) | (simp at *; omega)) _) | (with_reducible refine Below.setCell ?_ (by first | omega | (simp; done) | (simp; omega) | (simp at *; omega)) _) | (with_reducible exact Below.refl _ _) | (with_reducible assumption) | (with_reducible refine Below.trans ?_ (Below.mono (by assumption) (by first | omega | (simp; done) | (simp; omega) | (simp at *; omega))))))))) q1).mono ?_
        rintro e xw2 ⟨rfl, hbx2⟩
        have zx2 := hbx2.size
        try simp at zx2
        obtain ⟨x2_0_0, x2_0_1, x2_1_0, x2_1_1, x2_2_0, x2_2_1, x2_3_0, x2_3_1⟩ : xw2.cell? ⟨w.heap.size + 1, 0, none⟩ = some (.int .i64 0) ∧ xw2.cell? ⟨w.heap.size + 1, 1, none⟩ = some (.int .i64 0) ∧ xw2.cell? ⟨xw1.heap.size, 0, none⟩ = some (.int .i64 ((k1 : Int))) ∧ xw2.cell? ⟨xw1.heap.size, 1, none⟩ = some (.int .i64 ((k2 : Int))) ∧ xw2.cell? ⟨xw1.heap.size + 1, 0, none⟩ = some (.int .i64 0) ∧ xw2.cell? ⟨xw1.heap.size + 1, 1, none⟩ = some (.int .i64 0) ∧ xw2.cell? ⟨xw1.heap.size + 1 + 1, 0, none⟩ = some (.int .i64 0) ∧ xw2.cell? ⟨xw1.heap.size + 1 + 1, 1, none⟩ = some (.int .i64 0) := by refine ⟨?_, ?_, ?_, ?_, ?_, ?_, ?_, ?_⟩ <;> (rw [(bcell hbx2).1 _ _ (by first | (simp; done) | (simp; omega) | omega)]; simp [go_sem, World.cell?_alloc_past, *])
        obtain ⟨x2f0, x2f2, x2f3⟩ : (∀ j, xw2.frozen? ⟨w.heap.size + 1, j, none⟩ = false) ∧ (∀ j, xw2.frozen? ⟨xw1.heap.size + 1, j, none⟩ = false) ∧ (∀ j, xw2.frozen? ⟨xw1.heap.size + 1 + 1, j, none⟩ = false) := by refine ⟨?_, ?_, ?_⟩ <;> (intro j; rw [(bcell hbx2).2 _ _ (by first | (simp; done) | (simp; omega) | omega)]; simp [go_sem, *])
        obtain ⟨x2o0, x2n0, x2m0, x2t0_0, x2t0_1, x2o1, x2n1, x2m1, x2t1_0, x2t1_1, x2o2, x2n2, x2m2, x2t2_0, x2t2_1, x2o3, x2n3, x2m3, x2t3_0, x2t3_1⟩ : w.heap.size + 1 < xw2.heap.size ∧ xw2.heap.size ≠ w.heap.size + 1 ∧ w.heap.size + 1 ≠ xw2.heap.size ∧ w.heap.size + 1 < xw2.heap.size + 1 ∧ w.heap.size + 1 < xw2.heap.size + 1 + 1 ∧ xw1.heap.size < xw2.heap.size ∧ xw2.heap.size ≠ xw1.heap.size ∧ xw1.heap.size ≠ xw2.heap.size ∧ xw1.heap.size < xw2.heap.size + 1 ∧ xw1.heap.size < xw2.heap.size + 1 + 1 ∧ xw1.heap.size + 1 < xw2.heap.size ∧ xw2.heap.size ≠ xw1.heap.size + 1 ∧ xw1.heap.size + 1 ≠ xw2.heap.size ∧ xw1.heap.size + 1 < xw2.heap.size + 1 ∧ xw1.heap.size + 1 < xw2.heap.size + 1 + 1 ∧ xw1.heap.size + 1 + 1 < xw2.heap.size ∧ xw2.heap.size ≠ xw1.heap.size + 1 + 1 ∧ xw1.heap.size + 1 + 1 ≠ xw2.heap.size ∧ xw1.heap.size + 1 + 1 < xw2.heap.size + 1 ∧ xw1.heap.size + 1 + 1 < xw2.heap.size + 1 + 1 := by refine ⟨?_, ?_, ?_, ?_, ?_, ?_, ?_, ?_, ?_, ?_, ?_, ?_, ?_, ?_, ?_, ?_, ?_, ?_, ?_, ?_⟩ <;> omega
        have hBx2 : Below w.heap.size w xw2 := (by (repeat (first | (with_reducible refine Below.drew ?_) | (with_reducible refine below_drewN ?_ _) | (with_reducible refine Below.alloc ?_ (by first | omega | (simp; done) | (simp; omega) | (simp at *; omega)) _) | (with_reducible refine Below.setCell ?_ (by first | omega | (simp; done) | (simp; omega) | (simp at *; omega)) _) | (with_reducible exact Below.refl _ _) | (with_reducible assumption) | (with_reducible refine Below.trans ?_ (Below.mono (by assumption) (by first | omega | (simp; done) | (simp; omega) | (simp at *; omega)))))))
        clear hbx2 x1_0_0 x1_0_1 x1f0 x1o0 x1n0 x1m0 x1t0_0 x1t0_1 hBx1
        go_wp2_with fail
        refine hK.out _ _ (by simp [go_sem, World.cell?_alloc_past, *]) (fun hHeld => ?_)
        clear hK K
        try simp only [Act.put, sA, sB, sC]
        refine wpAnyH_ready (rs := [11]) (by kernel_rfl) (by simp) ?_
        refine AllReadyH.cons rfl (fun K hK => ?_) (AllReadyH.nil)
        go_simp
        refine (cosine_is b 2 k2 a2 b2 _ m2 (by first | omega | (simp; omega)) (Lib.hid (HA.out _ (by (repeat (first | (with_reducible refine Below.drew ?_) | (with_reducible refine below_drewN ?_ _) | (with_reducible refine Below.alloc ?_ (by first | omega | (simp; done) | (simp; omega) | (simp at *; omega)) _) | (with_reducible refine Below.setCell ?_ (by first | omega | (simp; done) | (simp; omega) | (simp at *; omega)) _) | (with_reducible exact Below.refl _ _) | (with_reducible assumption) | (with_reducible refine Below.trans ?_ (Below.mono (by assumption) (by first | omega | (simp; done) | (simp; omega) | (simp at *; omega))))))))) q2).mono ?_
        rintro e xw3 ⟨rfl, hbx3⟩
        have zx3 := hbx3.size
        try simp at zx3
        obtain ⟨x3_0_0, x3_0_1, x3_1_0, x3_1_1, x3_2_0, x3_2_1, x3_3_0, x3_3_1⟩ : xw3.cell? ⟨w.heap.size + 1, 0, none⟩ = some (.int .i64 0) ∧ xw3.cell? ⟨w.heap.size + 1, 1, none⟩ = some (.int .i64 0) ∧ xw3.cell? ⟨xw1.heap.size, 0, none⟩ = some (.int .i64 ((k1 : Int))) ∧ xw3.cell? ⟨xw1.heap.size, 1, none⟩ = some (.int .i64 ((k2 : Int))) ∧ xw3.cell? ⟨xw1.heap.size + 1, 0, none⟩ = some (.int .i64 0) ∧ xw3.cell? ⟨xw1.heap.size + 1, 1, none⟩ = some (.int .i64 0) ∧ xw3.cell? ⟨xw1.heap.size + 1 + 1, 0, none⟩ = some (.int .i64 0) ∧ xw3.cell? ⟨xw1.heap.size + 1 + 1, 1, none⟩ = some (.int .i64 0) := by refine ⟨?_, ?_, ?_, ?_, ?_, ?_, ?_, ?_⟩ <;> (rw [(bcell hbx3).1 _ _ (by first | (simp; done) | (simp; omega) | omega)]; simp [go_sem, World.cell?_alloc_past, *])
        obtain ⟨x3f0, x3f2, x3f3⟩ : (∀ j, xw3.frozen? ⟨w.heap.size + 1, j, none⟩ = false) ∧ (∀ j, xw3.frozen? ⟨xw1.heap.size + 1, j, none⟩ = false) ∧ (∀ j, xw3.frozen? ⟨xw1.heap.size + 1 + 1, j, none⟩ = false) := by refine ⟨?_, ?_, ?_⟩ <;> (intro j; rw [(bcell hbx3).2 _ _ (by first | (simp; done) | (simp; omega) | omega)]; simp [go_sem, *])
        obtain ⟨x3o0, x3n0, x3m0, x3t0_0, x3t0_1, x3o1, x3n1, x3m1, x3t1_0, x3t1_1, x3o2, x3n2, x3m2, x3t2_0, x3t2_1, x3o3, x3n3, x3m3, x3t3_0, x3t3_1⟩ : w.heap.size + 1 < xw3.heap.size ∧ xw3.heap.size ≠ w.heap.size + 1 ∧ w.heap.size + 1 ≠ xw3.heap.size ∧ w.heap.size + 1 < xw3.heap.size + 1 ∧ w.heap.size + 1 < xw3.heap.size + 1 + 1 ∧ xw1.heap.size < xw3.heap.size ∧ xw3.heap.size ≠ xw1.heap.size ∧ xw1.heap.size ≠ xw3.heap.size ∧ xw1.heap.size < xw3.heap.size + 1 ∧ xw1.heap.size < xw3.heap.size + 1 + 1 ∧ xw1.heap.size + 1 < xw3.heap.size ∧ xw3.heap.size ≠ xw1.heap.size + 1 ∧ xw1.heap.size + 1 ≠ xw3.heap.size ∧ xw1.heap.size + 1 < xw3.heap.size + 1 ∧ xw1.heap.size + 1 < xw3.heap.size + 1 + 1 ∧ xw1.heap.size + 1 + 1 < xw3.heap.size ∧ xw3.heap.size ≠ xw1.heap.size + 1 + 1 ∧ xw1.heap.size + 1 + 1 ≠ xw3.heap.size ∧ xw1.heap.size + 1 + 1 < xw3.heap.size + 1 ∧ xw1.heap.size + 1 + 1 < xw3.heap.size + 1 + 1 := by refine ⟨?_, ?_, ?_, ?_, ?_, ?_, ?_, ?_, ?_, ?_, ?_, ?_, ?_, ?_, ?_, ?_, ?_, ?_, ?_, ?_⟩ <;> omega
        have hBx3 : Below w.heap.size w xw3 := (by (repeat (first | (with_reducible refine Below.drew ?_) | (with_reducible refine below_drewN ?_ _) | (with_reducible refine Below.alloc ?_ (by first | omega | (simp; done) | (simp; omega) | (simp at *; omega)) _) | (with_reducible refine Below.setCell ?_ (by first | omega | (simp; done) | (simp; omega) | (simp at *; omega)) _) | (with_reducible exact Below.refl _ _) | (with_reducible assumption) | (with_reducible refine Below.trans ?_ (Below.mono (by assumption) (by first | omega | (simp; done) | (simp; omega) | (simp at *; omega)))))))
        clear hbx3 x2_0_0 x2_0_1 x2_1_0 x2_1_1 x2_2_0 x2_2_1 x2_3_0 x2_3_1 x2f0 x2f2 x2f3 x2o0 x2n0 x2m0 x2t0_0 x2t0_1 x2o1 x2n1 x2m1 x2t1_0 x2t1_1 x2o2 x2n2 x2m2 x2t2_0 x2t2_1 x2o3 x2n3 x2m3 x2t3_0 x2t3_1 hBx2
        go_wp2_with fail
        refine hK.out _ _ (by simp [go_sem, World.cell?_alloc_past, *]) (fun hHeld => ?_)
        clear hK K
        try simp only [Act.put, sA, sB, sC]
        refine wpAnyH_ready (rs := [14]) (by kernel_rfl) (by simp) ?_
        refine AllReadyH.cons rfl (fun K hK => ?_) (AllReadyH.nil)
        go_simp
        go_wp2_with fail
        refine hK.out _ _ (by simp [go_sem, World.cell?_alloc_past, *]) (fun hHeld => ?_)
        clear hK K
        try simp only [Act.put, sA, sB, sC]
        refine wpAnyH_ready (rs := [15]) (by kernel_rfl) (by simp) ?_
        refine AllReadyH.cons rfl (fun K hK => ?_) (AllReadyH.nil)
        go_simp
        go_wp2_with fail
        refine hK.out _ _ (by simp [go_sem, World.cell?_alloc_past, *]) (fun hHeld => ?_)
        clear hK K
        try simp only [Act.put, sA, sB, sC]
        refine wpAnyH_done (by kernel_rfl) ?_ _
        go_wp2_with fail
        go_meet
        exact ⟨xw1.heap.size + 1, xw1.heap.size + 1 + 1, rfl, rfl, by simp [go_sem, World.cell?_alloc_past, *], by simp [go_sem, World.cell?_alloc_past, *], by simp [go_sem, World.cell?_alloc_past, *], by simp [go_sem, World.cell?_alloc_past, *], by simp [go_sem, World.cell?_alloc_past, *], by simp [go_sem, World.cell?_alloc_past, *], by intro j; simp [go_sem, *], by omega, by omega, (by (repeat (first | (with_reducible refine Below.drew ?_) | (with_reducible refine below_drewN ?_ _) | (with_reducible refine Below.alloc ?_ (by first | omega | (simp; done) | (simp; omega) | (simp at *; omega)) _) | (with_reducible refine Below.setCell ?_ (by first | omega | (simp; done) | (simp; omega) | (simp at *; omega)) _) | (with_reducible exact Below.refl _ _) | (with_reducible assumption) | (with_reducible refine Below.trans ?_ (Below.mono (by assumption) (by first | omega | (simp; done) | (simp; omega) | (simp at *; omega)))))))⟩
    · skip
      go_simp
      go_wp2_with fail
      refine hK.out _ _ (by simp [go_sem, World.cell?_alloc_past, *]) (fun hHeld => ?_)
      clear hK K
      try simp only [Act.put, sA, sB, sC]
      refine wpAnyH_ready (rs := [5, 12]) (by kernel_rfl) (by simp) ?_
      refine AllReadyH.cons rfl (fun K hK => ?_) (AllReadyH.cons rfl (fun K hK => ?_) (AllReadyH.nil))
      · skip
        go_simp
        refine (cosine_is b 2 k1 a1 b1 _ m1 (by first | omega | (simp; omega)) (Lib.hid (HA.out _ (by (repeat (first | (with_reducible refine Below.drew ?_) | (with_reducible refine below_drewN ?_ _) | (with_reducible refine Below.alloc ?_ (by first | omega | (simp; done) | (simp; omega) | (simp at *; omega)) _) | (with_reducible refine Below.setCell ?_ (by first | omega | (simp; done) | (simp; omega) | (simp at *; omega)) _) | (with_reducible exact Below.refl _ _) | (with_reducible assumption) | (with_reducible refine Below.trans ?_ (Below.mono (by assumption) (by first | omega | (simp; done) | (simp; omega) | (simp at *; omega))))))))) q1).mono ?_
        rintro e xw2 ⟨rfl, hbx2⟩
        have zx2 := hbx2.size
        try simp at zx2
        obtain ⟨x2_0_0, x2_0_1, x2_1_0, x2_1_1, x2_2_0, x2_2_1⟩ : xw2.cell? ⟨w.heap.size + 1, 0, none⟩ = some (.int .i64 0) ∧ xw2.cell? ⟨w.heap.size + 1, 1, none⟩ = some (.int .i64 0) ∧ xw2.cell? ⟨xw1.heap.size, 0, none⟩ = some (.int .i64 ((k1 : Int))) ∧ xw2.cell? ⟨xw1.heap.size, 1, none⟩ = some (.int .i64 ((k2 : Int))) ∧ xw2.cell? ⟨xw1.heap.size + 1, 0, none⟩ = some (.int .i64 0) ∧ xw2.cell? ⟨xw1.heap.size + 1, 1, none⟩ = some (.int .i64 0) := by refine ⟨?_, ?_, ?_, ?_, ?_, ?_⟩ <;> (rw [(bcell hbx2).1 _ _ (by first | (simp; done) | (simp; omega) | omega)]; simp [go_sem, World.cell?_alloc_past, *])
        obtain ⟨x2f0, x2f2⟩ : (∀ j, xw2.frozen? ⟨w.heap.size + 1, j, none⟩ = false) ∧ (∀ j, xw2.frozen? ⟨xw1.heap.size + 1, j, none⟩ = false) := by refine ⟨?_, ?_⟩ <;> (intro j; rw [(bcell hbx2).2 _ _ (by first | (simp; done) | (simp; omega) | omega)]; simp [go_sem, *])
        obtain ⟨x2o0, x2n0, x2m0, x2t0_0, x2t0_1, x2o1, x2n1, x2m1, x2t1_0, x2t1_1, x2o2, x2n2, x2m2, x2t2_0, x2t2_1⟩ : w.heap.size + 1 < xw2.heap.size ∧ xw2.heap.size ≠ w.heap.size + 1 ∧ w.heap.size + 1 ≠ xw2.heap.size ∧ w.heap.size + 1 < xw2.heap.size + 1 ∧ w.heap.size + 1 < xw2.heap.size + 1 + 1 ∧ xw1.heap.size < xw2.heap.size ∧ xw2.heap.size ≠ xw1.heap.size ∧ xw1.heap.size ≠ xw2.heap.size ∧ xw1.heap.size < xw2.heap.size + 1 ∧ xw1.heap.size < xw2.heap.size + 1 + 1 ∧ xw1.heap.size + 1 < xw2.heap.size ∧ xw2.heap.size ≠ xw1.heap.size + 1 ∧ xw1.heap.size + 1 ≠ xw2.heap.size ∧ xw1.heap.size + 1 < xw2.heap.size + 1 ∧ xw1.heap.size + 1 < xw2.heap.size + 1 + 1 := by refine ⟨?_, ?_, ?_, ?_, ?_, ?_, ?_, ?_, ?_, ?_, ?_, ?_, ?_, ?_, ?_⟩ <;> omega
        have hBx2 : Below w.heap.size w xw2 := (by (repeat (first | (with_reducible refine Below.drew ?_) | (with_reducible refine below_drewN ?_ _) | (with_reducible refine Below.alloc ?_ (by first | omega | (simp; done) | (simp; omega) | (simp at *; omega)) _) | (with_reducible refine Below.setCell ?_ (by first | omega | (simp; done) | (simp; omega) | (simp at *; omega)) _) | (with_reducible exact Below.refl _ _) | (with_reducible assumption) | (with_reducible refine Below.trans ?_ (Below.mono (by assumption) (by first | omega | (simp; done) | (simp; omega) | (simp at *; omega)))))))
        clear hbx2 x1_0_0 x1_0_1 x1f0 x1o0 x1n0 x1m0 x1t0_0 x1t0_1 hBx1
        go_wp2_with fail
        refine hK.out _ _ (by simp [go_sem, World.cell?_alloc_past, *]) (fun hHeld => ?_)
        clear hK K
        try simp only [Act.put, sA, sB, sC]
        refine wpAnyH_ready (rs := [11, 12]) (by kernel_rfl) (by simp) ?_
        refine AllReadyH.cons rfl (fun K hK => ?_) (AllReadyH.cons rfl (fun K hK => ?_) (AllReadyH.nil))
        · skip
          go_simp
          refine (cosine_is b 2 k2 a2 b2 _ m2 (by first | omega | (simp; omega)) (Lib.hid (HA.out _ (by (repeat (first | (with_reducible refine Below.drew ?_) | (with_reducible refine below_drewN ?_ _) | (with_reducible refine Below.alloc ?_ (by first | omega | (simp; done) | (simp; omega) | (simp at *; omega)) _) | (with_reducible refine Below.setCell ?_ (by first | omega | (simp; done) | (simp; omega) | (simp at *; omega)) _) | (with_reducible exact Below.refl _ _) | (with_reducible assumption) | (with_reducible refine Below.trans ?_ (Below.mono (by assumption) (by first | omega | (simp; done) | (simp; omega) | (simp at *; omega))))))))) q2).mono ?_
          rintro e xw3 ⟨rfl, hbx3⟩
          have zx3 := hbx3.size
          try simp at zx3
          obtain ⟨x3_0_0, x3_0_1, x3_1_0, x3_1_1, x3_2_0, x3_2_1⟩ : xw3.cell? ⟨w.heap.size + 1, 0, none⟩ = some (.int .i64 0) ∧ xw3.cell? ⟨w.heap.size + 1, 1, none⟩ = some (.int .i64 0) ∧ xw3.cell? ⟨xw1.heap.size, 0, none⟩ = some (.int .i64 ((k1 : Int))) ∧ xw3.cell? ⟨xw1.heap.size, 1, none⟩ = some (.int .i64 ((k2 : Int))) ∧ xw3.cell? ⟨xw1.heap.size + 1, 0, none⟩ = some (.int .i64 0) ∧ xw3.cell? ⟨xw1.heap.size + 1, 1, none⟩ = some (.int .i64 0) := by refine ⟨?_, ?_, ?_, ?_, ?_, ?_⟩ <;> (rw [(bcell hbx3).1 _ _ (by first | (simp; done) | (simp; omega) | omega)]; simp [go_sem, World.cell?_alloc_past, *])
          obtain ⟨x3f0, x3f2⟩ : (∀ j, xw3.frozen? ⟨w.heap.size + 1, j, none⟩ = false) ∧ (∀ j, xw3.frozen? ⟨xw1.heap.size + 1, j, none⟩ = false) := by refine ⟨?_, ?_⟩ <;> (intro j; rw [(bcell hbx3).2 _ _ (by first | (simp; done) | (simp; omega) | omega)]; simp [go_sem, *])
          obtain ⟨x3o0, x3n0, x3m0, x3t0_0, x3t0_1, x3o1, x3n1, x3m1, x3t1_0, x3t1_1, x3o2, x3n2, x3m2, x3t2_0, x3t2_1⟩ : w.heap.size + 1 < xw3.heap.size ∧ xw3.heap.size ≠ w.heap.size + 1 ∧ w.heap.size + 1 ≠ xw3.heap.size ∧ w.heap.size + 1 < xw3.heap.size + 1 ∧ w.heap.size + 1 < xw3.heap.size + 1 + 1 ∧ xw1.heap.size < xw3.heap.size ∧ xw3.heap.size ≠ xw1.heap.size ∧ xw1.heap.size ≠ xw3.heap.size ∧ xw1.heap.size < xw3.heap.size + 1 ∧ xw1.heap.size < xw3.heap.size + 1 + 1 ∧ xw1.heap.size + 1 < xw3.heap.size ∧ xw3.heap.size ≠ xw1.heap.size + 1 ∧ xw1.heap.size + 1 ≠ xw3.heap.size ∧ xw1.heap.size + 1 < xw3.heap.size + 1 ∧ xw1.heap.size + 1 < xw3.heap.size + 1 + 1 := by refine ⟨?_, ?_, ?_, ?_, ?_, ?_, ?_, ?_, ?_, ?_, ?_, ?_, ?_, ?_, ?_⟩ <;> omega
          have hBx3 : Below w.heap.size w xw3 := (by (repeat (first | (with_reducible refine Below.drew ?_) | (with_reducible refine below_drewN ?_ _) | (with_reducible refine Below.alloc ?_ (by first | omega | (simp; done) | (simp; omega) | (simp at *; omega)) _) | (with_reducible refine Below.setCell ?_ (by first | omega | (simp; done) | (simp; omega) | (simp at *; omega)) _) | (with_reducible exact Below.refl _ _) | (with_reducible assumption) | (with_reducible refine Below.trans ?_ (Below.mono (by assumption) (by first | omega | (simp; done) | (simp; omega) | (simp at *; omega)))))))
          clear hbx3 x2_0_0 x2_0_1 x2_1_0 x2_1_1 x2_2_0 x2_2_1 x2f0 x2f2 x2o0 x2n0 x2m0 x2t0_0 x2t0_1 x2o1 x2n1 x2m1 x2t1_0 x2t1_1 x2o2 x2n2 x2m2 x2t2_0 x2t2_1 hBx2
          go_wp2_with fail
          refine hK.out _ _ (by simp [go_sem, World.cell?_alloc_past, *]) (fun hHeld => ?_)
          clear hK K
          try simp only [Act.put, sA, sB, sC]
          refine wpAnyH_ready (rs := [12]) (by kernel_rfl) (by simp) ?_
          refine AllReadyH.cons rfl (fun K hK => ?_) (AllReadyH.nil)
          go_simp
          go_wp2_with fail
          refine hK.out _ _ (by simp [go_sem, World.cell?_alloc_past, *]) (fun hHeld => ?_)
          clear hK K
          try simp only [Act.put, sA, sB, sC]
          refine wpAnyH_ready (rs := [14]) (by kernel_rfl) (by simp) ?_
          refine AllReadyH.cons rfl (fun K hK => ?_) (AllReadyH.nil)
          go_simp
          go_wp2_with fail
          refine hK.out _ _ (by simp [go_sem, World.cell?_alloc_past, *]) (fun hHeld => ?_)
          clear hK K
          try simp only [Act.put, sA, sB, sC]
          refine wpAnyH_ready (rs := [15]) (by kernel_rfl) (by simp) ?_
          refine AllReadyH.cons rfl (fun K hK => ?_) (AllReadyH.nil)
          go_simp
          go_wp2_with fail
          refine hK.out _ _ (by simp [go_sem, World.cell?_alloc_past, *]) (fun hHeld => ?_)
          clear hK K
          try simp only [Act.put, sA, sB, sC]
          refine wpAnyH_done (by kernel_rfl) ?_ _
          go_wp2_with fail
          go_meet
          exact ⟨xw3.heap.size, xw1.heap.size + 1, rfl, rfl, by simp [go_sem, World.cell?_alloc_past, *], by simp [go_sem, World.cell?_alloc_past, *], by simp [go_sem, World.cell?_alloc_past, *], by simp [go_sem, World.cell?_alloc_past, *], by simp [go_sem, World.cell?_alloc_past, *], by simp [go_sem, World.cell?_alloc_past, *], by intro j; simp [go_sem, *], by omega, by omega, (by (repeat (first | (with_reducible refine Below.drew ?_) | (with_reducible refine below_drewN ?_ _) | (with_reducible refine Below.alloc ?_ (by first | omega | (simp; done) | (simp; omega) | (simp at *; omega)) _) | (with_reducible refine Below.setCell ?_ (by first | omega | (simp; done) | (simp; omega) | (simp at *; omega)) _) | (with_reducible exact Below.refl _ _) | (with_reducible assumption) | (with_reducible refine Below.trans ?_ (Below.mono (by assumption) (by first | omega | (simp; done) | (simp; omega) | (simp at *; omega)))))))⟩
        · skip
          go_simp
          go_wp2_with fail
          refine hK.out _ _ (by simp [go_sem, World.cell?_alloc_past, *]) (fun hHeld => ?_)
          clear hK K
          try simp only [Act.put, sA, sB, sC]
          refine wpAnyH_ready (rs := [11]) (by kernel_rfl) (by simp) ?_
          refine AllReadyH.cons rfl (fun K hK => ?_) (AllReadyH.nil)
          go_simp
          refine (cosine_is b 2 k2 a2 b2 _ m2 (by first | omega | (simp; omega)) (Lib.hid (HA.out _ (by (repeat (first | (with_reducible refine Below.drew ?_) | (with_reducible refine below_drewN ?_ _) | (with_reducible refine Below.alloc ?_ (by first | omega | (simp; done) | (simp; omega) | (simp at *; omega)) _) | (with_reducible refine Below.setCell ?_ (by first | omega | (simp; done) | (simp; omega) | (simp at *; omega)) _) | (with_reducible exact Below.refl _ _) | (with_reducible assumption) | (with_reducible refine Below.trans ?_ (Below.mono (by assumption) (by first | omega | (simp; done) | (simp; omega) | (simp at *; omega))))))))) q2).mono ?_
          rintro e xw3 ⟨rfl, hbx3⟩
          have zx3 := hbx3.size
          try simp at zx3
          obtain ⟨x3_0_0, x3_0_1, x3_1_0, x3_1_1, x3_2_0, x3_2_1, x3_3_0, x3_3_1⟩ : xw3.cell? ⟨w.heap.size + 1, 0, none⟩ = some (.int .i64 0) ∧ xw3.cell? ⟨w.heap.size + 1, 1, none⟩ = some (.int .i64 0) ∧ xw3.cell? ⟨xw1.heap.size, 0, none⟩ = some (.int .i64 ((k1 : Int))) ∧ xw3.cell? ⟨xw1.heap.size, 1, none⟩ = some (.int .i64 ((k2 : Int))) ∧ xw3.cell? ⟨xw1.heap.size + 1, 0, none⟩ = some (.int .i64 0) ∧ xw3.cell? ⟨xw1.heap.size + 1, 1, none⟩ = some (.int .i64 0) ∧ xw3.cell? ⟨xw2.heap.size, 0, none⟩ = some (.int .i64 0) ∧ xw3.cell? ⟨xw2.heap.size, 1, none⟩ = some (.int .i64 0) := by refine ⟨?_, ?_, ?_, ?_, ?_, ?_, ?_, ?_⟩ <;> (rw [(bcell hbx3).1 _ _ (by first | (simp; done) | (simp; omega) | omega)]; simp [go_sem, World.cell?_alloc_past, *])
          obtain ⟨x3f0, x3f2, x3f3⟩ : (∀ j, xw3.frozen? ⟨w.heap.size + 1, j, none⟩ = false) ∧ (∀ j, xw3.frozen? ⟨xw1.heap.size + 1, j, none⟩ = false) ∧ (∀ j, xw3.frozen? ⟨xw2.heap.size, j, none⟩ = false) := by refine ⟨?_, ?_, ?_⟩ <;> (intro j; rw [(bcell hbx3).2 _ _ (by first | (simp; done) | (simp; omega) | omega)]; simp [go_sem, *])
          obtain ⟨x3o0, x3n0, x3m0, x3t0_0, x3t0_1, x3o1, x3n1, x3m1, x3t1_0, x3t1_1, x3o2, x3n2, x3m2, x3t2_0, x3t2_1, x3o3, x3n3, x3m3, x3t3_0, x3t3_1⟩ : w.heap.size + 1 < xw3.heap.size ∧ xw3.heap.size ≠ w.heap.size + 1 ∧ w.heap.size + 1 ≠ xw3.heap.size ∧ w.heap.size + 1 < xw3.heap.size + 1 ∧ w.heap.size + 1 < xw3.heap.size + 1 + 1 ∧ xw1.heap.size < xw3.heap.size ∧ xw3.heap.size ≠ xw1.heap.size ∧ xw1.heap.size ≠ xw3.heap.size ∧ xw1.heap.size < xw3.heap.size + 1 ∧ xw1.heap.size < xw3.heap.size + 1 + 1 ∧ xw1.heap.size + 1 < xw3.heap.size ∧ xw3.heap.size ≠ xw1.heap.size + 1 ∧ xw1.heap.size + 1 ≠ xw3.heap.size ∧ xw1.heap.size + 1 < xw3.heap.size + 1 ∧ xw1.heap.size + 1 < xw3.heap.size + 1 + 1 ∧ xw2.heap.size < xw3.heap.size ∧ xw3.heap.size ≠ xw2.heap.size ∧ xw2.heap.size ≠ xw3.heap.size ∧ xw2.heap.size < xw3.heap.size + 1 ∧ xw2.heap.size < xw3.heap.size + 1 + 1 := by refine ⟨?_, ?_, ?_, ?_, ?_, ?_, ?_, ?_, ?_, ?_, ?_, ?_, ?_, ?_, ?_, ?_, ?_, ?_, ?_, ?_⟩ <;> omega
          have hBx3 : Below w.heap.size w xw3 := (by (repeat (first | (with_reducible refine Below.drew ?_) | (with_reducible refine below_drewN ?_ _) | (with_reducible refine Below.alloc ?_ (by first | omega | (simp; done) | (simp; omega) | (simp at *; omega)) _) | (with_reducible refine Below.setCell ?_ (by first | omega | (simp; done) | (simp; omega) | (simp at *; omega)) _) | (with_reducible exact Below.refl _ _) | (with_reducible assumption) | (with_reducible refine Below.trans ?_ (Below.mono (by assumption) (by first | omega | (simp; done) | (simp; omega) | (simp at *; omega)))))))
          clear hbx3 x2_0_0 x2_0_1 x2_1_0 x2_1_1 x2_2_0 x2_2_1 x2f0 x2f2 x2o0 x2n0 x2m0 x2t0_0 x2t0_1 x2o1 x2n1 x2m1 x2t1_0 x2t1_1 x2o2 x2n2 x2m2 x2t2_0 x2t2_1 hBx2
          go_wp2_with fail
          refine hK.out _ _ (by simp [go_sem, World.cell?_alloc_past, *]) (fun hHeld => ?_)
          clear hK K
          try simp only [Act.put, sA, sB, sC]
          refine wpAnyH_ready (rs := [14]) (by kernel_rfl) (by simp) ?_
          refine AllReadyH.cons rfl (fun K hK => ?_) (AllReadyH.nil)
          go_simp
          go_wp2_with fail
          refine hK.out _ _ (by simp [go_sem, World.cell?_alloc_past, *]) (fun hHeld => ?_)
          clear hK K
          try simp only [Act.put, sA, sB, sC]
          refine wpAnyH_ready (rs := [15]) (by kernel_rfl) (by simp) ?_
          refine AllReadyH.cons rfl (fun K hK => ?_) (AllReadyH.nil)
          go_simp
          go_wp2_with fail
          refine hK.out _ _ (by simp [go_sem, World.cell?_alloc_past, *]) (fun hHeld => ?_)
          clear hK K
          try simp only [Act.put, sA, sB, sC]
          refine wpAnyH_done (by kernel_rfl) ?_ _
          go_wp2_with fail
          go_meet
          exact ⟨xw2.heap.size, xw1.heap.size + 1, rfl, rfl, by simp [go_sem, World.cell?_alloc_past, *], by simp [go_sem, World.cell?_alloc_past, *], by simp [go_sem, World.cell?_alloc_past, *], by simp [go_sem, World.cell?_alloc_past, *], by simp [go_sem, World.cell?_alloc_past, *], by simp [go_sem, World.cell?_alloc_past, *], by intro j; simp [go_sem, *], by omega, by omega, (by (repeat (first | (with_reducible refine Below.drew ?_) | (with_reducible refine below_drewN ?_ _) | (with_reducible refine Below.alloc ?_ (by first | omega | (simp; done) | (simp; omega) | (simp at *; omega)) _) | (with_reducible refine Below.setCell ?_ (by first | omega | (simp; done) | (simp; omega) | (simp at *; omega)) _) | (with_reducible exact Below.refl _ _) | (with_reducible assumption) | (with_reducible refine Below.trans ?_ (Below.mono (by assumption) (by first | omega | (simp; done) | (simp; omega) | (simp at *; omega)))))))⟩
      · skip
        go_simp
        go_wp2_with fail
        refine hK.out _ _ (by simp [go_sem, World.cell?_alloc_past, *]) (fun hHeld => ?_)
        clear hK K
        try simp only [Act.put, sA, sB, sC]
        refine wpAnyH_ready (rs := [5]) (by kernel_rfl) (by simp) ?_
        refine AllReadyH.cons rfl (fun K hK => ?_) (AllReadyH.nil)
        go_simp
        refine (cosine_is b 2 k1 a1 b1 _ m1 (by first | omega | (simp; omega)) (Lib.hid (HA.out _ (by (repeat (first | (with_reducible refine Below.drew ?_) | (with_reducible refine below_drewN ?_ _) | (with_reducible refine Below.alloc ?_ (by first | omega | (simp; done) | (simp; omega) | (simp at *; omega)) _) | (with_reducible refine Below.setCell ?_ (by first | omega | (simp; done) | (simp; omega) | (simp at *; omega)) _) | (with_reducible exact Below.refl _ _) | (with_reducible assumption) | (with_reducible refine Below.trans ?_ (Below.mono (by assumption) (by first | omega | (simp; done) | (simp; omega) | (simp at *; omega))))))))) q1).mono ?_
        rintro e xw2 ⟨rfl, hbx2⟩
        have zx2 := hbx2.size
        try simp at zx2
        obtain ⟨x2_0_0, x2_0_1, x2_1_0, x2_1_1, x2_2_0, x2_2_1, x2_3_0, x2_3_1⟩ : xw2.cell? ⟨w.heap.size + 1, 0, none⟩ = some (.int .i64 0) ∧ xw2.cell? ⟨w.heap.size + 1, 1, none⟩ = some (.int .i64 0) ∧ xw2.cell? ⟨xw1.heap.size, 0, none⟩ = some (.int .i64 ((k1 : Int))) ∧ xw2.cell? ⟨xw1.heap.size, 1, none⟩ = some (.int .i64 ((k2 : Int))) ∧ xw2.cell? ⟨xw1.heap.size + 1, 0, none⟩ = some (.int .i64 0) ∧ xw2.cell? ⟨xw1.heap.size + 1, 1, none⟩ = some (.int .i64 0) ∧ xw2.cell? ⟨xw1.heap.size + 1 + 1, 0, none⟩ = some (.int .i64 0) ∧ xw2.cell? ⟨xw1.heap.size + 1 + 1, 1, none⟩ = some (.int .i64 0) := by refine ⟨?_, ?_, ?_, ?_, ?_, ?_, ?_, ?_⟩ <;> (rw [(bcell hbx2).1 _ _ (by first | (simp; done) | (simp; omega) | omega)]; simp [go_sem, World.cell?_alloc_past, *])
        obtain ⟨x2f0, x2f2, x2f3⟩ : (∀ j, xw2.frozen? ⟨w.heap.size + 1, j, none⟩ = false) ∧ (∀ j, xw2.frozen? ⟨xw1.heap.size + 1, j, none⟩ = false) ∧ (∀ j, xw2.frozen? ⟨xw1.heap.size + 1 + 1, j, none⟩ = false) := by refine ⟨?_, ?_, ?_⟩ <;> (intro j; rw [(bcell hbx2).2 _ _ (by first | (simp; done) | (simp; omega) | omega)]; simp [go_sem, *])
        obtain ⟨x2o0, x2n0, x2m0, x2t0_0, x2t0_1, x2o1, x2n1, x2m1, x2t1_0, x2t1_1, x2o2, x2n2, x2m2, x2t2_0, x2t2_1, x2o3, x2n3, x2m3, x2t3_0, x2t3_1⟩ : w.heap.size + 1 < xw2.heap.size ∧ xw2.heap.size ≠ w.heap.size + 1 ∧ w.heap.size + 1 ≠ xw2.heap.size ∧ w.heap.size + 1 < xw2.heap.size + 1 ∧ w.heap.size + 1 < xw2.heap.size + 1 + 1 ∧ xw1.heap.size < xw2.heap.size ∧ xw2.heap.size ≠ xw1.heap.size ∧ xw1.heap.size ≠ xw2.heap.size ∧ xw1.heap.size < xw2.heap.size + 1 ∧ xw1.heap.size < xw2.heap.size + 1 + 1 ∧ xw1.heap.size + 1 < xw2.heap.size ∧ xw2.heap.size ≠ xw1.heap.size + 1 ∧ xw1.heap.size + 1 ≠ xw2.heap.size ∧ xw1.heap.size + 1 < xw2.heap.size + 1 ∧ xw1.heap.size + 1 < xw2.heap.size + 1 + 1 ∧ xw1.heap.size + 1 + 1 < xw2.heap.size ∧ xw2.heap.size ≠ xw1.heap.size + 1 + 1 ∧ xw1.heap.size + 1 + 1 ≠ xw2.heap.size ∧ xw1.heap.size + 1 + 1 < xw2.heap.size + 1 ∧ xw1.heap.size + 1 + 1 < xw2.heap.size + 1 + 1 := by refine ⟨?_, ?_, ?_, ?_, ?_, ?_, ?_, ?_, ?_, ?_, ?_, ?_, ?_, ?_, ?_, ?_, ?_, ?_, ?_, ?_⟩ <;> omega
        have hBx2 : Below w.heap.size w xw2 := (by (repeat (first | (with_reducible refine Below.drew ?_) | (with_reducible refine below_drewN ?_ _) | (with_reducible refine Below.alloc ?_ (by first | omega | (simp; done) | (simp; omega) | (simp at *; omega)) _) | (with_reducible refine Below.setCell ?_ (by first | omega | (simp; done) | (simp; omega) | (simp at *; omega)) _) | (with_reducible exact Below.refl _ _) | (with_reducible assumption) | (with_reducible refine Below.trans ?_ (Below.mono (by assumption) (by first | omega | (simp; done) | (simp; omega) | (simp at *; omega)))))))
        clear hbx2 x1_0_0 x1_0_1 x1f0 x1o0 x1n0 x1m0 x1t0_0 x1t0_1 hBx1
        go_wp2_with fail
        refine hK.out _ _ (by simp [go_sem, World.cell?_alloc_past, *]) (fun hHeld => ?_)
        clear hK K
        try simp only [Act.put, sA, sB, sC]
        refine wpAnyH_ready (rs := [11]) (by kernel_rfl) (by simp) ?_
        refine AllReadyH.cons rfl (fun K hK => ?_) (AllReadyH.nil)
        go_simp
        refine (cosine_is b 2 k2 a2 b2 _ m2 (by first | omega | (simp; omega)) (Lib.hid (HA.out _ (by (repeat (first | (with_reducible refine Below.drew ?_) | (with_reducible refine below_drewN ?_ _) | (with_reducible refine Below.alloc ?_ (by first | omega | (simp; done) | (simp; omega) | (simp at *; omega)) _) | (with_reducible refine Below.setCell ?_ (by first | omega | (simp; done) | (simp; omega) | (simp at *; omega)) _) | (with_reducible exact Below.refl _ _) | (with_reducible assumption) | (with_reducible refine Below.trans ?_ (Below.mono (by assumption) (by first | omega | (simp; done) | (simp; omega) | (simp at *; omega))))))))) q2).mono ?_
        rintro e xw3 ⟨rfl, hbx3⟩
        have zx3 := hbx3.size
        try simp at zx3
        obtain ⟨x3_0_0, x3_0_1, x3_1_0, x3_1_1, x3_2_0, x3_2_1, x3_3_0, x3_3_1⟩ : xw3.cell? ⟨w.heap.size + 1, 0, none⟩ = some (.int .i64 0) ∧ xw3.cell? ⟨w.heap.size + 1, 1, none⟩ = some (.int .i64 0) ∧ xw3.cell? ⟨xw1.heap.size, 0, none⟩ = some (.int .i64 ((k1 : Int))) ∧ xw3.cell? ⟨xw1.heap.size, 1, none⟩ = some (.int .i64 ((k2 : Int))) ∧ xw3.cell? ⟨xw1.heap.size + 1, 0, none⟩ = some (.int .i64 0) ∧ xw3.cell? ⟨xw1.heap.size + 1, 1, none⟩ = some (.int .i64 0) ∧ xw3.cell? ⟨xw1.heap.size + 1 + 1, 0, none⟩ = some (.int .i64 0) ∧ xw3.cell? ⟨xw1.heap.size + 1 + 1, 1, none⟩ = some (.int .i64 0) := by refine ⟨?_, ?_, ?_, ?_, ?_, ?_, ?_, ?_⟩ <;> (rw [(bcell hbx3).1 _ _ (by first | (simp; done) | (simp; omega) | omega)]; simp [go_sem, World.cell?_alloc_past, *])
        obtain ⟨x3f0, x3f2, x3f3⟩ : (∀ j, xw3.frozen? ⟨w.heap.size + 1, j, none⟩ = false) ∧ (∀ j, xw3.frozen? ⟨xw1.heap.size + 1, j, none⟩ = false) ∧ (∀ j, xw3.frozen? ⟨xw1.heap.size + 1 + 1, j, none⟩ = false) := by refine ⟨?_, ?_, ?_⟩ <;> (intro j; rw [(bcell hbx3).2 _ _ (by first | (simp; done) | (simp; omega) | omega)]; simp [go_sem, *])
        obtain ⟨x3o0, x3n0, x3m0, x3t0_0, x3t0_1, x3o1, x3n1, x3m1, x3t1_0, x3t1_1, x3o2, x3n2, x3m2, x3t2_0, x3t2_1, x3o3, x3n3, x3m3, x3t3_0, x3t3_1⟩ : w.heap.size + 1 < xw3.heap.size ∧ xw3.heap.size ≠ w.heap.size + 1 ∧ w.heap.size + 1 ≠ xw3.heap.size ∧ w.heap.size + 1 < xw3.heap.size + 1 ∧ w.heap.size + 1 < xw3.heap.size + 1 + 1 ∧ xw1.heap.size < xw3.heap.size ∧ xw3.heap.size ≠ xw1.heap.size ∧ xw1.heap.size ≠ xw3.heap.size ∧ xw1.heap.size < xw3.heap.size + 1 ∧ xw1.heap.size < xw3.heap.size + 1 + 1 ∧ xw1.heap.size + 1 < xw3.heap.size ∧ xw3.heap.size ≠ xw1.heap.size + 1 ∧ xw1.heap.size + 1 ≠ xw3.heap.size ∧ xw1.heap.size + 1 < xw3.heap.size + 1 ∧ xw1.heap.size + 1 < xw3.heap.size + 1 + 1 ∧ xw1.heap.size + 1 + 1 < xw3.heap.size ∧ xw3.heap.size ≠ xw1.heap.size + 1 + 1 ∧ xw1.heap.size + 1 + 1 ≠ xw3.heap.size ∧ xw1.heap.size + 1 + 1 < xw3.heap.size + 1 ∧ xw1.heap.size + 1 + 1 < xw3.heap.size + 1 + 1 := by refine ⟨?_, ?_, ?_, ?_, ?_, ?_, ?_, ?_, ?_, ?_, ?_, ?_, ?_, ?_, ?_, ?_, ?_, ?_, ?_, ?_⟩ <;> omega
        have hBx3 : Below w.heap.size w xw3 := (by (repeat (first | (with_reducible refine Below.drew ?_) | (with_reducible refine below_drewN ?_ _) | (with_reducible refine Below.alloc ?_ (by first | omega | (simp; done) | (simp; omega) | (simp at *; omega)) _) | (with_reducible refine Below.setCell ?_ (by first | omega | (simp; done) | (simp; omega) | (simp at *; omega)) _) | (with_reducible exact Below.refl _ _) | (with_reducible assumption) | (with_reducible refine Below.trans ?_ (Below.mono (by assumption) (by first | omega | (simp; done) | (simp; omega) | (simp at *; omega)))))))
        clear hbx3 x2_0_0 x2_0_1 x2_1_0 x2_1_1 x2_2_0 x2_2_1 x2_3_0 x2_3_1 x2f0 x2f2 x2f3 x2o0 x2n0 x2m0 x2t0_0 x2t0_1 x2o1 x2n1 x2m1 x2t1_0 x2t1_1 x2o2 x2n2 x2m2 x2t2_0 x2t2_1 x2o3 x2n3 x2m3 x2t3_0 x2t3_1 hBx2
        go_wp2_with fail
        refine hK.out _ _ (by simp [go_sem, World.cell?_alloc_past, *]) (fun hHeld => ?_)
        clear hK K
        try simp only [Act.put, sA, sB, sC]
        refine wpAnyH_ready (rs := [14]) (by kernel_rfl) (by simp) ?_
        refine AllReadyH.cons rfl (fun K hK => ?_) (AllReadyH.nil)
        go_simp
        go_wp2_with fail
        refine hK.out _ _ (by simp [go_sem, World.cell?_alloc_past, *]) (fun hHeld => ?_)
        clear hK K
        try simp only [Act.put, sA, sB, sC]
        refine wpAnyH_ready (rs := [15]) (by kernel_rfl) (by simp) ?_
        refine AllReadyH.cons rfl (fun K hK => ?_) (AllReadyH.nil)
        go_simp
        go_wp2_with fail
        refine hK.out _ _ (by simp [go_sem, World.cell?_alloc_past, *]) (fun hHeld => ?_)
        clear hK K
        try simp only [Act.put, sA, sB, sC]
        refine wpAnyH_done (by kernel_rfl) ?_ _
        go_wp2_with fail
        go_meet
        exact ⟨xw1.heap.size + 1 + 1, xw1.heap.size + 1, rfl, rfl, by simp [go_sem, World.cell?_alloc_past, *], by simp [go_sem, World.cell?_alloc_past, *], by simp [go_sem, World.cell?_alloc_past, *], by simp [go_sem, World.cell?_alloc_past, *], by simp [go_sem, World.cell?_alloc_past, *], by simp [go_sem, World.cell?_alloc_past, *], by intro j; simp [go_sem, *], by omega, by omega, (by (repeat (first | (with_reducible refine Below.drew ?_) | (with_reducible refine below_drewN ?_ _) | (with_reducible refine Below.alloc ?_ (by first | omega | (simp; done) | (simp; omega) | (simp at *; omega)) _) | (with_reducible refine Below.setCell ?_ (by first | omega | (simp; done) | (simp; omega) | (simp at *; omega)) _) | (with_reducible exact Below.refl _ _) | (with_reducible assumption) | (with_reducible refine Below.trans ?_ (Below.mono (by assumption) (by first | omega | (simp; done) | (simp; omega) | (simp at *; omega)))))))⟩
  case rest =>
    obtain ⟨x, y, rfl, rfl, c0, c1, c2, c3, c4, c5, cf, o1, o2, hB⟩ := hcut
    have o3 : x ≠ w.heap.size + 1 := by omega
    have o4 : y ≠ w.heap.size + 1 := by omega
    go_wp2
    all_goals
      refine bodyPost_ret (v := .agg #[.int .i64 x1, .int .i64 x2]) (by (have := E1.out); (have := E2.out); simp [results, Tryz.results111, go_sem, c4, c5, o3, o4] <;> omega) rfl ⟨rfl, ?_⟩
      (repeat (first | (with_reducible refine Below.drew ?_) | (with_reducible refine below_drewN ?_ _) | (with_reducible refine Below.alloc ?_ (by first | omega | (simp; done) | (simp; omega) | (simp at *; omega)) _) | (with_reducible refine Below.setCell ?_ (by first | omega | (simp; done) | (simp; omega) | (simp at *; omega)) _) | (with_reducible exact Below.refl _ _) | (with_reducible assumption) | (with_reducible refine Below.trans ?_ (Below.mono (by assumption) (by first | omega | (simp; done) | (simp; omega) | (simp at *; omega))))))
end Go.Proofs.YtojaompfffpofaaGreat
