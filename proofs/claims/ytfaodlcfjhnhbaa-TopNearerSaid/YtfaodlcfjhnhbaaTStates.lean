/- The walk over the states at the marks of the leg of the examples, with the fineness 1: what (course).states and its function do. -/
import Derived.Test.YtfaodlcfjhnhbaaTCk
import Derived.RangeFuncNested
import Derived.RangeFuncBound
import Derived.RangeFuncCalls
import Derived.RangeFuncLeaves
import Derived.Shelf.Abstract
import Derived.Shelf.RegionOpen
import Derived.OwnWalkIn
import Derived.TacticsInMore
import Derived.LoopNIn
import Derived.LoopIn
import Derived.Sort.CutIn
import Derived.Deep.DrawnRows
import Derived.Outline
namespace Go.Proofs.Ytfaodlcfjhnhbaa
open Go.ChangeShapes Go.WideShapes Go.ChangeAt Go.RowKit Go.Shelf
open Go.ChangeMaps (setBlock)
set_option linter.unusedVariables false
set_option linter.unusedSimpArgs false
attribute [local go_sem] Oper.semAt_some
attribute [local go_sem ↓] Go.wp_at_zero Go.wp_at_succ

set_option maxRecDepth 100000 in
set_option maxHeartbeats 8000000 in
theorem states1_ex (cb lx fb b4 b1 b3 bm bB tb to tcap rb rcap q0 qo qcap : Nat) (ol od : Obj) (l D N m : Nat) (w : World) (v0 : Value)
    (HE : Hid (Env cb lx fb b4 b1 b3 bm bB tb to tcap rb rcap q0 qo qcap 600 240 500 1500 740230 740230 0 0 ol od l D N w)) (hN : w.heap.size = N) (hm : Hid (w.heap[bm]? = some (.map #[] 0))) (hv : Hid (w.cell? ⟨bB, 0, none⟩ = some v0 ∧ w.frozen? ⟨bB, 0, none⟩ = false)) (hm3 : 3 ≤ m) (hrc : Hid (10 + 1 ≤ rcap ∧ rcap ≤ maxLen)) (HY : Hid (Yields (m - 1) l D bB N ol od)) :
    CallsIn Fence.wide m Try.prog 63 #[.func (.yield l) #[] #[], .pointer (some ⟨cb, 0, none⟩), .pointer (some ⟨lx, 0, none⟩), .pointer (some ⟨fb, 0, none⟩)] w (StatesEnd bm bB N w) := by
  have HNN := Lib.hid hN
  have HRT := Lib.hid HE.out
  obtain ⟨hcb, hlx, hfb, hb4, hb1, hb3, hbm, hbB, htb, hrb, hq0, hl, hD⟩ := HE.out.lt
  have c0 := HE.out.c0
  have c1 := HE.out.c1
  have c2 := HE.out.c2
  have c3 := HE.out.c3
  have c4 := HE.out.c4
  have c5 := HE.out.c5
  have c6 := HE.out.c6
  have lc := HE.out.lc
  rw [← HNN.out] at hcb hlx hfb hb4 hb1 hb3 hbm hbB htb hrb hq0 hl hD
  clear hN
  have HS : ∀ w', Below w.heap.size w w' → w'.cell? ⟨cb, 0, none⟩ = some (.int .i64 1000) ∧ w'.cell? ⟨cb, 1, none⟩ = some (.int .i64 4000) ∧ w'.cell? ⟨cb, 2, none⟩ = some (.int .i64 600) ∧ w'.cell? ⟨cb, 3, none⟩ = some (.int .i64 210) ∧ w'.cell? ⟨cb, 4, none⟩ = some (.int .i64 0) ∧ w'.cell? ⟨cb, 5, none⟩ = some (.slice (some ⟨tb, to, none⟩) 1 tcap) ∧ w'.cell? ⟨cb, 6, none⟩ = some (.int .i64 1) ∧ w'.cell? ⟨lx, 0, none⟩ = some (.slice (some ⟨q0, qo, none⟩) 1 qcap) := fun w' hb => ⟨(hb.cell (p := ⟨cb, 0, none⟩) hcb).trans c0, (hb.cell (p := ⟨cb, 1, none⟩) hcb).trans c1, (hb.cell (p := ⟨cb, 2, none⟩) hcb).trans c2, (hb.cell (p := ⟨cb, 3, none⟩) hcb).trans c3, (hb.cell (p := ⟨cb, 4, none⟩) hcb).trans c4, (hb.cell (p := ⟨cb, 5, none⟩) hcb).trans c5, (hb.cell (p := ⟨cb, 6, none⟩) hcb).trans c6, (hb.cell (p := ⟨lx, 0, none⟩) hlx).trans lc⟩
  have HS' := Lib.hid HS
  clear HS c0 c1 c2 c3 c4 c5 c6 lc
  refine callsIn_of_wp Try.func63 rfl trivial ?_
  simp only [Try.ntmps63, List.size_toArray, List.length_cons, List.length_nil, Nat.reduceAdd, Nat.reduceSub, Array.replicate_succ, Array.replicate_zero, List.push_toArray, List.append_toArray, List.nil_append, List.cons_append]
  gi_upto_region 0 with (fail)
  gi_cut [5] from 9 (fun s5 wx => St0 w 740230 740230 0 0 0 0 1000 1000 s5 wx)
  case first =>
    refine wpIn_wide.2 ?_
    clear HE hm hv HY hfb hb4 hb1 hb3 hbm hbB htb hrb hl hD
    refine wp_region_held_drew (S := (fun w' => w'.cell? ⟨cb, 0, none⟩ = some (.int .i64 1000) ∧ w'.cell? ⟨cb, 1, none⟩ = some (.int .i64 4000) ∧ w'.cell? ⟨cb, 2, none⟩ = some (.int .i64 600) ∧ w'.cell? ⟨cb, 3, none⟩ = some (.int .i64 210) ∧ w'.cell? ⟨cb, 4, none⟩ = some (.int .i64 0) ∧ w'.cell? ⟨cb, 5, none⟩ = some (.slice (some ⟨tb, to, none⟩) 1 tcap) ∧ w'.cell? ⟨cb, 6, none⟩ = some (.int .i64 1) ∧ w'.cell? ⟨lx, 0, none⟩ = some (.slice (some ⟨q0, qo, none⟩) 1 qcap))) (by kernel_rfl) (by exact HS'.out _ (Below.refl w.heap.size w).drew) (fun hHeld => ?_)
    refine wpAnyH_take (i := 0) (oi := ⟨some 9, _, _, _, _, _⟩) (v := ?_) rfl (by kernel_rfl) (by kernel_rfl) (by kernel_rfl) (fun _ _ _ h => h) (Or.inl ⟨by kernel_rfl, ?_⟩) (by assumption) ?_
    rotate_left
    · (intro w hSw; (try dsimp only at hSw); go_simp; all_goals with_reducible rfl)
    try simp only [Act.put, List.setIfInBounds_toArray, List.set_cons_zero, List.set_cons_succ]
    refine wpAnyH_take (i := 2) (oi := ⟨some 11, _, _, _, _, _⟩) (v := ?_) rfl (by kernel_rfl) (by kernel_rfl) (by kernel_rfl) (fun _ _ _ h => h) (Or.inl ⟨by kernel_rfl, ?_⟩) (by assumption) ?_
    rotate_left
    · (intro w hSw; (try dsimp only at hSw); go_simp; all_goals with_reducible rfl)
    try simp only [Act.put, List.setIfInBounds_toArray, List.set_cons_zero, List.set_cons_succ]
    refine wpAnyH_ready (rs := [1, 5]) (by kernel_rfl) (by simp) ?_
    refine AllReadyH.cons rfl (fun K hK => ?_) (AllReadyH.cons rfl (fun K hK => ?_) (AllReadyH.nil))
    · skip
      go_simp
      refine (mark_0x 1 tcap (some ⟨tb, to, none⟩) _ 1 0 0 1000 1000 rfl (by decide) (by decide) (by decide) (by decide)).mono ?_
      rintro e v1 ⟨rfl, hb1⟩
      have z1 := hb1.size
      (try simp at z1)
      have hB1 : Below w.heap.size w v1 := ((Below.refl w.heap.size w).drew).trans (hb1.mono ((Below.refl w.heap.size w).drew).size)
      clear hb1
      go_wp2_with fail
      refine hK.out _ _ (HS'.out _ (hB1)) (fun hHeld => ?_)
      clear hK K
      try simp only [Act.put, List.setIfInBounds_toArray, List.set_cons_zero, List.set_cons_succ]
      refine wpAnyH_ready (rs := [3, 5]) (by kernel_rfl) (by simp) ?_
      refine AllReadyH.cons rfl (fun K hK => ?_) (AllReadyH.cons rfl (fun K hK => ?_) (AllReadyH.nil))
      · skip
        go_simp
        refine (clone_one 740230 740230 0 0 q0 qo qcap v1 (Nat.lt_of_lt_of_le hq0 (hB1).size) (HRT.out.keep (BelowX.of (hB1) (Nat.le_of_eq HNN.out.symm))).p0 (HRT.out.keep (BelowX.of (hB1) (Nat.le_of_eq HNN.out.symm))).p1 (HRT.out.keep (BelowX.of (hB1) (Nat.le_of_eq HNN.out.symm))).p2 (HRT.out.keep (BelowX.of (hB1) (Nat.le_of_eq HNN.out.symm))).p3).mono ?_
        rintro e v2 ⟨q, qf, qc, rfl, hq1, hq2, r0, r1, r2, r3, hb2⟩
        have z2 := hb2.size
        (try simp at z2)
        have hq3 : w.heap.size ≤ q := Nat.le_trans (hB1).size hq1
        try simp at hq1
        have hB2 : Below w.heap.size w v2 := (hB1).trans (hb2.mono (hB1).size)
        clear hb2
        go_wp2_with fail
        refine hK.out _ _ (HS'.out _ (hB2)) (fun hHeld => ?_)
        clear hK K
        try simp only [Act.put, List.setIfInBounds_toArray, List.set_cons_zero, List.set_cons_succ]
        refine wpAnyH_take (i := 4) (oi := ⟨some 13, _, _, _, _, _⟩) (v := ?_) rfl (by kernel_rfl) (by kernel_rfl) (by kernel_rfl) (fun _ _ _ h => h) (Or.inl ⟨by kernel_rfl, ?_⟩) (by assumption) ?_
        rotate_left
        · (intro w hSw; (try dsimp only at hSw); go_simp; all_goals with_reducible rfl)
        try simp only [Act.put, List.setIfInBounds_toArray, List.set_cons_zero, List.set_cons_succ]
        refine wpAnyH_ready (rs := [5]) (by kernel_rfl) (by simp) ?_
        refine AllReadyH.cons rfl (fun K hK => ?_) (AllReadyH.nil)
        go_simp
        go_wp2_with fail
        refine hK.out _ _ (HS'.out _ ((hB2).alloc (hB2).size _)) (fun hHeld => ?_)
        clear hK K
        try simp only [Act.put, List.setIfInBounds_toArray, List.set_cons_zero, List.set_cons_succ]
        have lt2a : v2.heap.size < (v2.alloc (.cells #[.int .i64 0, .int .i64 0, .int .i64 0, .int .i64 0, .slice none 0 0] 93)).heap.size := by simp
        refine wpAnyH_ready (rs := [6]) (by kernel_rfl) (by simp) ?_
        refine AllReadyH.cons rfl (fun K hK => ?_) (AllReadyH.nil)
        go_simp
        go_wp2_with fail
        refine hK.out _ _ (HS'.out _ ((hB2).alloc (hB2).size _)) (fun hHeld => ?_)
        clear hK K
        try simp only [Act.put, List.setIfInBounds_toArray, List.set_cons_zero, List.set_cons_succ]
        refine wpAnyH_done (by kernel_rfl) ?_ _
        go_wp2_with fail
        gi_meet
        exact St0.new (hB2) hq3 hq2 r0 r1 r2 r3
      · skip
        go_simp
        go_wp2_with fail
        refine hK.out _ _ (HS'.out _ ((hB1).alloc (hB1).size _)) (fun hHeld => ?_)
        clear hK K
        try simp only [Act.put, List.setIfInBounds_toArray, List.set_cons_zero, List.set_cons_succ]
        have lt1a : v1.heap.size < (v1.alloc (.cells #[.int .i64 0, .int .i64 0, .int .i64 0, .int .i64 0, .slice none 0 0] 93)).heap.size := by simp
        refine wpAnyH_ready (rs := [3]) (by kernel_rfl) (by simp) ?_
        refine AllReadyH.cons rfl (fun K hK => ?_) (AllReadyH.nil)
        go_simp
        refine (clone_one 740230 740230 0 0 q0 qo qcap (v1.alloc (.cells #[.int .i64 0, .int .i64 0, .int .i64 0, .int .i64 0, .slice none 0 0] 93)) (Nat.lt_of_lt_of_le hq0 ((hB1).alloc (hB1).size _).size) (HRT.out.keep (BelowX.of ((hB1).alloc (hB1).size _) (Nat.le_of_eq HNN.out.symm))).p0 (HRT.out.keep (BelowX.of ((hB1).alloc (hB1).size _) (Nat.le_of_eq HNN.out.symm))).p1 (HRT.out.keep (BelowX.of ((hB1).alloc (hB1).size _) (Nat.le_of_eq HNN.out.symm))).p2 (HRT.out.keep (BelowX.of ((hB1).alloc (hB1).size _) (Nat.le_of_eq HNN.out.symm))).p3).mono ?_
        rintro e v2 ⟨q, qf, qc, rfl, hq1, hq2, r0, r1, r2, r3, hb2⟩
        have z2 := hb2.size
        (try simp at z2)
        have hq3 : w.heap.size ≤ q := Nat.le_trans ((hB1).alloc (hB1).size _).size hq1
        try simp at hq1
        have has2 : (∀ i, i < 5 → ∃ v, v2.cell? ⟨v1.heap.size, i, none⟩ = some v) ∧ (∀ j, v2.frozen? ⟨v1.heap.size, j, none⟩ = false) := has5_below (w := (v1.alloc (.cells #[.int .i64 0, .int .i64 0, .int .i64 0, .int .i64 0, .slice none 0 0] 93))) (new5_is v1 _ _ _ _ _ 93) hb2 lt1a
        have lt2 : v1.heap.size < v2.heap.size := Nat.lt_of_lt_of_le lt1a hb2.size
        have hB2 : Below w.heap.size w v2 := ((hB1).alloc (hB1).size _).trans (hb2.mono ((hB1).alloc (hB1).size _).size)
        clear hb2
        go_wp2_with fail
        refine hK.out _ _ (HS'.out _ (hB2)) (fun hHeld => ?_)
        clear hK K
        try simp only [Act.put, List.setIfInBounds_toArray, List.set_cons_zero, List.set_cons_succ]
        refine wpAnyH_take (i := 4) (oi := ⟨some 13, _, _, _, _, _⟩) (v := ?_) rfl (by kernel_rfl) (by kernel_rfl) (by kernel_rfl) (fun _ _ _ h => h) (Or.inl ⟨by kernel_rfl, ?_⟩) (by assumption) ?_
        rotate_left
        · (intro w hSw; (try dsimp only at hSw); go_simp; all_goals with_reducible rfl)
        try simp only [Act.put, List.setIfInBounds_toArray, List.set_cons_zero, List.set_cons_succ]
        have hab : w.heap.size ≤ v1.heap.size := (hB1).size
        obtain ⟨he, hf⟩ := has2
        obtain ⟨ev0, e0⟩ := he 0 (by omega)
        obtain ⟨ev1, e1⟩ := he 1 (by omega)
        obtain ⟨ev2, e2⟩ := he 2 (by omega)
        obtain ⟨ev3, e3⟩ := he 3 (by omega)
        obtain ⟨ev4, e4⟩ := he 4 (by omega)
        refine wpAnyH_ready (rs := [6]) (by kernel_rfl) (by simp) ?_
        refine AllReadyH.cons rfl (fun K hK => ?_) (AllReadyH.nil)
        go_simp
        go_wp2_with fail
        refine hK.out _ _ (HS'.out _ (set5_below (hB2) hab)) (fun hHeld => ?_)
        clear hK K
        try simp only [Act.put, List.setIfInBounds_toArray, List.set_cons_zero, List.set_cons_succ]
        refine wpAnyH_done (by kernel_rfl) ?_ _
        go_wp2_with fail
        gi_meet
        exact St0.of (hB2) hab lt2 ⟨he, hf⟩ hq3 hq2 (by first | omega | (simp at *; omega)) r0 r1 r2 r3
    · skip
      go_simp
      go_wp2_with fail
      refine hK.out _ _ (HS'.out _ (((Below.refl w.heap.size w).drew).alloc ((Below.refl w.heap.size w).drew).size _)) (fun hHeld => ?_)
      clear hK K
      try simp only [Act.put, List.setIfInBounds_toArray, List.set_cons_zero, List.set_cons_succ]
      have lt0a : w.heap.size < (w.drew.alloc (.cells #[.int .i64 0, .int .i64 0, .int .i64 0, .int .i64 0, .slice none 0 0] 93)).heap.size := by simp
      refine wpAnyH_ready (rs := [1]) (by kernel_rfl) (by simp) ?_
      refine AllReadyH.cons rfl (fun K hK => ?_) (AllReadyH.nil)
      go_simp
      refine (mark_0x 1 tcap (some ⟨tb, to, none⟩) _ 1 0 0 1000 1000 rfl (by decide) (by decide) (by decide) (by decide)).mono ?_
      rintro e v1 ⟨rfl, hb1⟩
      have z1 := hb1.size
      (try simp at z1)
      have has1 : (∀ i, i < 5 → ∃ v, v1.cell? ⟨w.heap.size, i, none⟩ = some v) ∧ (∀ j, v1.frozen? ⟨w.heap.size, j, none⟩ = false) := has5_below (w := (w.drew.alloc (.cells #[.int .i64 0, .int .i64 0, .int .i64 0, .int .i64 0, .slice none 0 0] 93))) (new5_is w.drew _ _ _ _ _ 93) hb1 lt0a
      have lt1 : w.heap.size < v1.heap.size := Nat.lt_of_lt_of_le lt0a hb1.size
      have hB1 : Below w.heap.size w v1 := (((Below.refl w.heap.size w).drew).alloc ((Below.refl w.heap.size w).drew).size _).trans (hb1.mono (((Below.refl w.heap.size w).drew).alloc ((Below.refl w.heap.size w).drew).size _).size)
      clear hb1
      go_wp2_with fail
      refine hK.out _ _ (HS'.out _ (hB1)) (fun hHeld => ?_)
      clear hK K
      try simp only [Act.put, List.setIfInBounds_toArray, List.set_cons_zero, List.set_cons_succ]
      refine wpAnyH_ready (rs := [3]) (by kernel_rfl) (by simp) ?_
      refine AllReadyH.cons rfl (fun K hK => ?_) (AllReadyH.nil)
      go_simp
      refine (clone_one 740230 740230 0 0 q0 qo qcap v1 (Nat.lt_of_lt_of_le hq0 (hB1).size) (HRT.out.keep (BelowX.of (hB1) (Nat.le_of_eq HNN.out.symm))).p0 (HRT.out.keep (BelowX.of (hB1) (Nat.le_of_eq HNN.out.symm))).p1 (HRT.out.keep (BelowX.of (hB1) (Nat.le_of_eq HNN.out.symm))).p2 (HRT.out.keep (BelowX.of (hB1) (Nat.le_of_eq HNN.out.symm))).p3).mono ?_
      rintro e v2 ⟨q, qf, qc, rfl, hq1, hq2, r0, r1, r2, r3, hb2⟩
      have z2 := hb2.size
      (try simp at z2)
      have hq3 : w.heap.size ≤ q := Nat.le_trans (hB1).size hq1
      try simp at hq1
      have has2 : (∀ i, i < 5 → ∃ v, v2.cell? ⟨w.heap.size, i, none⟩ = some v) ∧ (∀ j, v2.frozen? ⟨w.heap.size, j, none⟩ = false) := has5_below (w := v1) has1 hb2 lt1
      have lt2 : w.heap.size < v2.heap.size := Nat.lt_of_lt_of_le lt1 hb2.size
      have hB2 : Below w.heap.size w v2 := (hB1).trans (hb2.mono (hB1).size)
      clear hb2
      go_wp2_with fail
      refine hK.out _ _ (HS'.out _ (hB2)) (fun hHeld => ?_)
      clear hK K
      try simp only [Act.put, List.setIfInBounds_toArray, List.set_cons_zero, List.set_cons_succ]
      refine wpAnyH_take (i := 4) (oi := ⟨some 13, _, _, _, _, _⟩) (v := ?_) rfl (by kernel_rfl) (by kernel_rfl) (by kernel_rfl) (fun _ _ _ h => h) (Or.inl ⟨by kernel_rfl, ?_⟩) (by assumption) ?_
      rotate_left
      · (intro w hSw; (try dsimp only at hSw); go_simp; all_goals with_reducible rfl)
      try simp only [Act.put, List.setIfInBounds_toArray, List.set_cons_zero, List.set_cons_succ]
      have hab : w.heap.size ≤ w.heap.size := ((Below.refl w.heap.size w).drew).size
      obtain ⟨he, hf⟩ := has2
      obtain ⟨ev0, e0⟩ := he 0 (by omega)
      obtain ⟨ev1, e1⟩ := he 1 (by omega)
      obtain ⟨ev2, e2⟩ := he 2 (by omega)
      obtain ⟨ev3, e3⟩ := he 3 (by omega)
      obtain ⟨ev4, e4⟩ := he 4 (by omega)
      refine wpAnyH_ready (rs := [6]) (by kernel_rfl) (by simp) ?_
      refine AllReadyH.cons rfl (fun K hK => ?_) (AllReadyH.nil)
      go_simp
      go_wp2_with fail
      refine hK.out _ _ (HS'.out _ (set5_below (hB2) hab)) (fun hHeld => ?_)
      clear hK K
      try simp only [Act.put, List.setIfInBounds_toArray, List.set_cons_zero, List.set_cons_succ]
      refine wpAnyH_done (by kernel_rfl) ?_ _
      go_wp2_with fail
      gi_meet
      exact St0.of (hB2) hab lt2 ⟨he, hf⟩ hq3 hq2 (by first | omega | (simp at *; omega)) r0 r1 r2 r3
  case rest =>
    obtain ⟨b5, q, qf, qc, rfl, hck⟩ := CK.of HRT.out HNN.out rfl hm.out hv.out hcut
    have CK0 := Lib.hid hck
    clear hck hcut
    have hm1 : 1 ≤ m := by omega
    have k0 := CK0.out.env.c0
    have k1 := CK0.out.env.c1
    have k2 := CK0.out.env.c2
    have k3 := CK0.out.env.c3
    have k4 := CK0.out.env.c4
    have k5 := CK0.out.env.c5
    have k6 := CK0.out.env.c6
    gi_wp2_with fail
    refine ⟨trivial, (callsIn_wide.2 (stepCount_ex 1 tcap (some ⟨tb, to, none⟩) _)).mono ?_⟩
    rintro e w1 ⟨rfl, hbw1⟩
    have CK1 := Lib.hid (CK0.out.below hbw1)
    clear k0 k1 k2 k3 k4 k5 k6 hbw1 CK0
    gi_wp2_with fail
    refine wpIn_loop_rounds 3 ?_
    rw [roundsIn_succ]
    have ys0 := CK1.out.s0
    have ys1 := CK1.out.s1
    have ys2 := CK1.out.s2
    have ys3 := CK1.out.s3
    have ys4 := CK1.out.s4
    obtain ⟨vb1, hvb1⟩ := CK1.out.bc
    obtain ⟨fn, tmps, assign, body, hy, hR⟩ := HY.out w1 0 0 1000 1000 q qf 1 qc vb1 CK1.out.env.le CK1.out.env.rl CK1.out.env.rd hvb1 CK1.out.bf
    gi_wp2_with fail
    refine hR.mono ?_
    rintro e w2 hround
    have CK2 := Lib.hid (CK1.out.round hround)
    have HR1 := Lib.hid hround
    obtain rfl := hround.1
    clear hround hy hR ys0 ys1 ys2 ys3 ys4 hvb1
    have k0 := CK2.out.env.c0
    have k1 := CK2.out.env.c1
    have k2 := CK2.out.env.c2
    have k3 := CK2.out.env.c3
    have k4 := CK2.out.env.c4
    have k5 := CK2.out.env.c5
    have k6 := CK2.out.env.c6
    gi_wp2_with fail
    refine ⟨trivial, (callsIn_wide.2 (mark_0x 1 tcap (some ⟨tb, to, none⟩) _ 1 1 300 2500 2500 rfl (by decide) (by decide) (by decide) (by decide))).mono ?_⟩
    rintro e u1 ⟨rfl, hbu⟩
    have CA1 := Lib.hid (CK2.out.below hbu)
    clear k0 k1 k2 k3 k4 k5 k6 hbu CK2
    gi_upto_region 6 with (fail)
    obtain ⟨w4, hw4⟩ : ∃ V, u1.alloc (.cells #[.int .i64 1, .int .i64 300, .int .i64 2500, .int .i64 2500] 91) = V := ⟨_, rfl⟩
    rw [hw4]
    have CB1 := Lib.hid (CA1.out.below (V' := w4) (by rw [← hw4]; exact (Below.refl _ _).alloc (Nat.le_refl _) _))
    have m0 : w4.cell? ⟨u1.heap.size, 0, none⟩ = some (.int .i64 1) := by rw [← hw4]; simp [go_sem]
    have m1 : w4.cell? ⟨u1.heap.size, 1, none⟩ = some (.int .i64 300) := by rw [← hw4]; simp [go_sem]
    have m2 : w4.cell? ⟨u1.heap.size, 2, none⟩ = some (.int .i64 2500) := by rw [← hw4]; simp [go_sem]
    have m3 : w4.cell? ⟨u1.heap.size, 3, none⟩ = some (.int .i64 2500) := by rw [← hw4]; simp [go_sem]
    have ml : u1.heap.size < w4.heap.size := by rw [← hw4]; simp
    have mN : N ≤ u1.heap.size := CA1.out.env.le
    have MM := Lib.hid (And.intro m0 (And.intro m1 (And.intro m2 m3)))
    clear hw4 CA1 m0 m1 m2 m3
    gi_cut [8, 15, 16] from 9 (fun s8 s15 s16 wx => s15 = .int .i64 2 ∧ s16 = .int .i64 0 ∧ R6 w4 740230 1925230 0 0 s8 wx)
    case first =>
      refine wpIn_wide.2 ?_
      have hcl : cb < w4.heap.size := Nat.lt_of_lt_of_le CB1.out.env.lt.1 CB1.out.env.le
      have HS : ∀ w', Below w4.heap.size w4 w' → w'.cell? ⟨cb, 3, none⟩ = some (.int .i64 210) ∧ w'.cell? ⟨cb, 4, none⟩ = some (.int .i64 0) ∧ w'.cell? ⟨b5, 0, none⟩ = some (.int .i64 0) ∧ w'.cell? ⟨b5, 1, none⟩ = some (.int .i64 0) ∧ w'.cell? ⟨b5, 2, none⟩ = some (.int .i64 1000) ∧ w'.cell? ⟨b5, 3, none⟩ = some (.int .i64 1000) ∧ w'.cell? ⟨u1.heap.size, 0, none⟩ = some (.int .i64 1) ∧ w'.cell? ⟨u1.heap.size, 1, none⟩ = some (.int .i64 300) ∧ w'.cell? ⟨u1.heap.size, 2, none⟩ = some (.int .i64 2500) ∧ w'.cell? ⟨u1.heap.size, 3, none⟩ = some (.int .i64 2500) := fun w' hb => ⟨(hb.cell (p := ⟨cb, 3, none⟩) hcl).trans CB1.out.env.c3, (hb.cell (p := ⟨cb, 4, none⟩) hcl).trans CB1.out.env.c4, (hb.cell (p := ⟨b5, 0, none⟩) CB1.out.b5l).trans CB1.out.s0, (hb.cell (p := ⟨b5, 1, none⟩) CB1.out.b5l).trans CB1.out.s1, (hb.cell (p := ⟨b5, 2, none⟩) CB1.out.b5l).trans CB1.out.s2, (hb.cell (p := ⟨b5, 3, none⟩) CB1.out.b5l).trans CB1.out.s3, (hb.cell (p := ⟨u1.heap.size, 0, none⟩) ml).trans MM.out.1, (hb.cell (p := ⟨u1.heap.size, 1, none⟩) ml).trans MM.out.2.1, (hb.cell (p := ⟨u1.heap.size, 2, none⟩) ml).trans MM.out.2.2.1, (hb.cell (p := ⟨u1.heap.size, 3, none⟩) ml).trans MM.out.2.2.2⟩
      have HS' := Lib.hid HS
      clear HS hcl
      refine wp_region_held_drew (S := (fun w' => w'.cell? ⟨cb, 3, none⟩ = some (.int .i64 210) ∧ w'.cell? ⟨cb, 4, none⟩ = some (.int .i64 0) ∧ w'.cell? ⟨b5, 0, none⟩ = some (.int .i64 0) ∧ w'.cell? ⟨b5, 1, none⟩ = some (.int .i64 0) ∧ w'.cell? ⟨b5, 2, none⟩ = some (.int .i64 1000) ∧ w'.cell? ⟨b5, 3, none⟩ = some (.int .i64 1000) ∧ w'.cell? ⟨u1.heap.size, 0, none⟩ = some (.int .i64 1) ∧ w'.cell? ⟨u1.heap.size, 1, none⟩ = some (.int .i64 300) ∧ w'.cell? ⟨u1.heap.size, 2, none⟩ = some (.int .i64 2500) ∧ w'.cell? ⟨u1.heap.size, 3, none⟩ = some (.int .i64 2500))) (by kernel_rfl) (by exact HS'.out _ (Below.refl w4.heap.size w4).drew) (fun hHeld => ?_)
      refine wpAnyH_take (i := 0) (oi := ⟨some 27, _, _, _, _, _⟩) (v := ?_) rfl (by kernel_rfl) (by kernel_rfl) (by kernel_rfl) (fun _ _ _ h => h) (Or.inl ⟨by kernel_rfl, ?_⟩) (by assumption) ?_
      rotate_left
      · (intro w hSw; (try dsimp only at hSw); go_simp; all_goals with_reducible rfl)
      try simp only [Act.put, List.setIfInBounds_toArray, List.set_cons_zero, List.set_cons_succ]
      refine wpAnyH_take (i := 1) (oi := ⟨some 28, _, _, _, _, _⟩) (v := ?_) rfl (by kernel_rfl) (by kernel_rfl) (by kernel_rfl) (fun _ _ _ h => h) (Or.inl ⟨by kernel_rfl, ?_⟩) (by assumption) ?_
      rotate_left
      · (intro w hSw; (try dsimp only at hSw); go_simp; all_goals with_reducible rfl)
      try simp only [Act.put, List.setIfInBounds_toArray, List.set_cons_zero, List.set_cons_succ]
      refine wpAnyH_take (i := 2) (oi := ⟨some 29, _, _, _, _, _⟩) (v := ?_) rfl (by kernel_rfl) (by kernel_rfl) (by kernel_rfl) (fun _ _ _ h => h) (Or.inl ⟨by kernel_rfl, ?_⟩) (by assumption) ?_
      rotate_left
      · (intro w hSw; (try dsimp only at hSw); go_simp; all_goals with_reducible rfl)
      try simp only [Act.put, List.setIfInBounds_toArray, List.set_cons_zero, List.set_cons_succ]
      refine wpAnyH_take (i := 3) (oi := ⟨some 30, _, _, _, _, _⟩) (v := ?_) rfl (by kernel_rfl) (by kernel_rfl) (by kernel_rfl) (fun _ _ _ h => h) (Or.inl ⟨by kernel_rfl, ?_⟩) (by assumption) ?_
      rotate_left
      · (intro w hSw; (try dsimp only at hSw); go_simp; all_goals with_reducible rfl)
      try simp only [Act.put, List.setIfInBounds_toArray, List.set_cons_zero, List.set_cons_succ]
      refine wpAnyH_take (i := 4) (oi := ⟨some 31, _, _, _, _, _⟩) (v := ?_) rfl (by kernel_rfl) (by kernel_rfl) (by kernel_rfl) (fun _ _ _ h => h) (Or.inl ⟨by kernel_rfl, ?_⟩) (by assumption) ?_
      rotate_left
      · (intro w hSw; (try dsimp only at hSw); go_simp; all_goals with_reducible rfl)
      try simp only [Act.put, List.setIfInBounds_toArray, List.set_cons_zero, List.set_cons_succ]
      refine wpAnyH_take (i := 5) (oi := ⟨some 32, _, _, _, _, _⟩) (v := ?_) rfl (by kernel_rfl) (by kernel_rfl) (by kernel_rfl) (fun _ _ _ h => h) (Or.inl ⟨by kernel_rfl, ?_⟩) (by assumption) ?_
      rotate_left
      · (intro w hSw; (try dsimp only at hSw); go_simp; all_goals with_reducible rfl)
      try simp only [Act.put, List.setIfInBounds_toArray, List.set_cons_zero, List.set_cons_succ]
      refine wpAnyH_ready (rs := [6, 8]) (by kernel_rfl) (by simp) ?_
      refine AllReadyH.cons rfl (fun K hK => ?_) (AllReadyH.cons rfl (fun K hK => ?_) (AllReadyH.nil))
      · skip
        go_simp
        refine (pres_x 0 0 1000 1000 1 300 2500 2500 1000 2500 _ (by decide) (by decide)).mono ?_
        rintro e v1 ⟨rfl, hb1⟩
        have z1 := hb1.size
        (try simp at z1)
        have hB1 : Below w4.heap.size w4 v1 := ((Below.refl w4.heap.size w4).drew).trans (hb1.mono ((Below.refl w4.heap.size w4).drew).size)
        clear hb1
        go_wp2_with fail
        refine hK.out _ _ (HS'.out _ (hB1)) (fun hHeld => ?_)
        clear hK K
        try simp only [Act.put, List.setIfInBounds_toArray, List.set_cons_zero, List.set_cons_succ]
        refine wpAnyH_ready (rs := [7, 8]) (by kernel_rfl) (by simp) ?_
        refine AllReadyH.cons rfl (fun K hK => ?_) (AllReadyH.cons rfl (fun K hK => ?_) (AllReadyH.nil))
        · skip
          go_simp
          refine (breath_x 1000 2500 740230 1925230 _ (by decide) (by decide) (by decide) (by decide)).mono ?_
          rintro e v2 ⟨rfl, hb2⟩
          have z2 := hb2.size
          (try simp at z2)
          have hB2 : Below w4.heap.size w4 v2 := (hB1).trans (hb2.mono (hB1).size)
          clear hb2
          go_wp2_with fail
          refine hK.out _ _ (HS'.out _ (hB2)) (fun hHeld => ?_)
          clear hK K
          try simp only [Act.put, List.setIfInBounds_toArray, List.set_cons_zero, List.set_cons_succ]
          refine wpAnyH_ready (rs := [8]) (by kernel_rfl) (by simp) ?_
          refine AllReadyH.cons rfl (fun K hK => ?_) (AllReadyH.nil)
          go_simp
          go_wp2_with fail
          refine hK.out _ _ (HS'.out _ ((hB2).alloc (hB2).size _)) (fun hHeld => ?_)
          clear hK K
          try simp only [Act.put, List.setIfInBounds_toArray, List.set_cons_zero, List.set_cons_succ]
          have lt2a : v2.heap.size < (v2.alloc (.cells #[.int .i64 0, .int .i64 0, .int .i64 0, .int .i64 0] 74)).heap.size := by simp
          refine wpAnyH_ready (rs := [9]) (by kernel_rfl) (by simp) ?_
          refine AllReadyH.cons rfl (fun K hK => ?_) (AllReadyH.nil)
          go_simp
          go_wp2_with fail
          refine hK.out _ _ (HS'.out _ ((hB2).alloc (hB2).size _)) (fun hHeld => ?_)
          clear hK K
          try simp only [Act.put, List.setIfInBounds_toArray, List.set_cons_zero, List.set_cons_succ]
          refine wpAnyH_done (by kernel_rfl) ?_ _
          go_wp2_with fail
          gi_meet
          exact ⟨rfl, rfl, R6.new (hB2)⟩
        · skip
          go_simp
          go_wp2_with fail
          refine hK.out _ _ (HS'.out _ ((hB1).alloc (hB1).size _)) (fun hHeld => ?_)
          clear hK K
          try simp only [Act.put, List.setIfInBounds_toArray, List.set_cons_zero, List.set_cons_succ]
          have lt1a : v1.heap.size < (v1.alloc (.cells #[.int .i64 0, .int .i64 0, .int .i64 0, .int .i64 0] 74)).heap.size := by simp
          refine wpAnyH_ready (rs := [7]) (by kernel_rfl) (by simp) ?_
          refine AllReadyH.cons rfl (fun K hK => ?_) (AllReadyH.nil)
          go_simp
          refine (breath_x 1000 2500 740230 1925230 _ (by decide) (by decide) (by decide) (by decide)).mono ?_
          rintro e v2 ⟨rfl, hb2⟩
          have z2 := hb2.size
          (try simp at z2)
          have has2 : (∀ i, i < 4 → ∃ v, v2.cell? ⟨v1.heap.size, i, none⟩ = some v) ∧ (∀ j, v2.frozen? ⟨v1.heap.size, j, none⟩ = false) := has4_below (w := (v1.alloc (.cells #[.int .i64 0, .int .i64 0, .int .i64 0, .int .i64 0] 74))) (new4_is v1 _ _ _ _ 74) hb2 lt1a
          have lt2 : v1.heap.size < v2.heap.size := Nat.lt_of_lt_of_le lt1a hb2.size
          have hB2 : Below w4.heap.size w4 v2 := ((hB1).alloc (hB1).size _).trans (hb2.mono ((hB1).alloc (hB1).size _).size)
          clear hb2
          go_wp2_with fail
          refine hK.out _ _ (HS'.out _ (hB2)) (fun hHeld => ?_)
          clear hK K
          try simp only [Act.put, List.setIfInBounds_toArray, List.set_cons_zero, List.set_cons_succ]
          have hab : w4.heap.size ≤ v1.heap.size := (hB1).size
          obtain ⟨he, hf⟩ := has2
          obtain ⟨ev0, e0⟩ := he 0 (by omega)
          obtain ⟨ev1, e1⟩ := he 1 (by omega)
          obtain ⟨ev2, e2⟩ := he 2 (by omega)
          obtain ⟨ev3, e3⟩ := he 3 (by omega)
          refine wpAnyH_ready (rs := [9]) (by kernel_rfl) (by simp) ?_
          refine AllReadyH.cons rfl (fun K hK => ?_) (AllReadyH.nil)
          go_simp
          go_wp2_with fail
          refine hK.out _ _ (HS'.out _ (set4_below (hB2) hab)) (fun hHeld => ?_)
          clear hK K
          try simp only [Act.put, List.setIfInBounds_toArray, List.set_cons_zero, List.set_cons_succ]
          refine wpAnyH_done (by kernel_rfl) ?_ _
          go_wp2_with fail
          gi_meet
          exact ⟨rfl, rfl, R6.of (hB2) hab lt2 ⟨he, hf⟩⟩
      · skip
        go_simp
        go_wp2_with fail
        refine hK.out _ _ (HS'.out _ (((Below.refl w4.heap.size w4).drew).alloc ((Below.refl w4.heap.size w4).drew).size _)) (fun hHeld => ?_)
        clear hK K
        try simp only [Act.put, List.setIfInBounds_toArray, List.set_cons_zero, List.set_cons_succ]
        have lt0a : w4.heap.size < (w4.drew.alloc (.cells #[.int .i64 0, .int .i64 0, .int .i64 0, .int .i64 0] 74)).heap.size := by simp
        refine wpAnyH_ready (rs := [6]) (by kernel_rfl) (by simp) ?_
        refine AllReadyH.cons rfl (fun K hK => ?_) (AllReadyH.nil)
        go_simp
        refine (pres_x 0 0 1000 1000 1 300 2500 2500 1000 2500 _ (by decide) (by decide)).mono ?_
        rintro e v1 ⟨rfl, hb1⟩
        have z1 := hb1.size
        (try simp at z1)
        have has1 : (∀ i, i < 4 → ∃ v, v1.cell? ⟨w4.heap.size, i, none⟩ = some v) ∧ (∀ j, v1.frozen? ⟨w4.heap.size, j, none⟩ = false) := has4_below (w := (w4.drew.alloc (.cells #[.int .i64 0, .int .i64 0, .int .i64 0, .int .i64 0] 74))) (new4_is w4.drew _ _ _ _ 74) hb1 lt0a
        have lt1 : w4.heap.size < v1.heap.size := Nat.lt_of_lt_of_le lt0a hb1.size
        have hB1 : Below w4.heap.size w4 v1 := (((Below.refl w4.heap.size w4).drew).alloc ((Below.refl w4.heap.size w4).drew).size _).trans (hb1.mono (((Below.refl w4.heap.size w4).drew).alloc ((Below.refl w4.heap.size w4).drew).size _).size)
        clear hb1
        go_wp2_with fail
        refine hK.out _ _ (HS'.out _ (hB1)) (fun hHeld => ?_)
        clear hK K
        try simp only [Act.put, List.setIfInBounds_toArray, List.set_cons_zero, List.set_cons_succ]
        refine wpAnyH_ready (rs := [7]) (by kernel_rfl) (by simp) ?_
        refine AllReadyH.cons rfl (fun K hK => ?_) (AllReadyH.nil)
        go_simp
        refine (breath_x 1000 2500 740230 1925230 _ (by decide) (by decide) (by decide) (by decide)).mono ?_
        rintro e v2 ⟨rfl, hb2⟩
        have z2 := hb2.size
        (try simp at z2)
        have has2 : (∀ i, i < 4 → ∃ v, v2.cell? ⟨w4.heap.size, i, none⟩ = some v) ∧ (∀ j, v2.frozen? ⟨w4.heap.size, j, none⟩ = false) := has4_below (w := v1) has1 hb2 lt1
        have lt2 : w4.heap.size < v2.heap.size := Nat.lt_of_lt_of_le lt1 hb2.size
        have hB2 : Below w4.heap.size w4 v2 := (hB1).trans (hb2.mono (hB1).size)
        clear hb2
        go_wp2_with fail
        refine hK.out _ _ (HS'.out _ (hB2)) (fun hHeld => ?_)
        clear hK K
        try simp only [Act.put, List.setIfInBounds_toArray, List.set_cons_zero, List.set_cons_succ]
        have hab : w4.heap.size ≤ w4.heap.size := ((Below.refl w4.heap.size w4).drew).size
        obtain ⟨he, hf⟩ := has2
        obtain ⟨ev0, e0⟩ := he 0 (by omega)
        obtain ⟨ev1, e1⟩ := he 1 (by omega)
        obtain ⟨ev2, e2⟩ := he 2 (by omega)
        obtain ⟨ev3, e3⟩ := he 3 (by omega)
        refine wpAnyH_ready (rs := [9]) (by kernel_rfl) (by simp) ?_
        refine AllReadyH.cons rfl (fun K hK => ?_) (AllReadyH.nil)
        go_simp
        go_wp2_with fail
        refine hK.out _ _ (HS'.out _ (set4_below (hB2) hab)) (fun hHeld => ?_)
        clear hK K
        try simp only [Act.put, List.setIfInBounds_toArray, List.set_cons_zero, List.set_cons_succ]
        refine wpAnyH_done (by kernel_rfl) ?_ _
        go_wp2_with fail
        gi_meet
        exact ⟨rfl, rfl, R6.of (hB2) hab lt2 ⟨he, hf⟩⟩
    case rest =>
    obtain ⟨rfl, rfl, b8, rfl, hb8n, hb8l, t0, t1, t2, t3, hB5⟩ := hcut
    have CC1 := Lib.hid (CB1.out.below hB5)
    obtain ⟨w5, hw5⟩ : ∃ V, V = wc := ⟨_, rfl⟩
    rw [← hw5] at t0 t1 t2 t3 hB5 CC1 hb8l
    rw [← hw5]
    have m0 : w5.cell? ⟨u1.heap.size, 0, none⟩ = some (.int .i64 1) := (hB5.cell (p := ⟨u1.heap.size, 0, none⟩) ml).trans MM.out.1
    have m1 : w5.cell? ⟨u1.heap.size, 1, none⟩ = some (.int .i64 300) := (hB5.cell (p := ⟨u1.heap.size, 1, none⟩) ml).trans MM.out.2.1
    have m2 : w5.cell? ⟨u1.heap.size, 2, none⟩ = some (.int .i64 2500) := (hB5.cell (p := ⟨u1.heap.size, 2, none⟩) ml).trans MM.out.2.2.1
    have m3 : w5.cell? ⟨u1.heap.size, 3, none⟩ = some (.int .i64 2500) := (hB5.cell (p := ⟨u1.heap.size, 3, none⟩) ml).trans MM.out.2.2.2
    have ml5 : u1.heap.size < w5.heap.size := Nat.lt_of_lt_of_le ml hB5.size
    have b8N : N ≤ b8 := by have := CB1.out.env.le; omega
    clear hw5 MM ml hB5 CB1 hb8n
    gi_upto_region 7 with (fail)
    refine wpIn_wide.2 ?_
    obtain ⟨hcb', hlx', hfb', hb4', hb1', hb3', hbm', hbB', htb', hrb', hq0', hl', hD'⟩ := CC1.out.env.lt
    obtain ⟨kcb, klx, kfb, kb4, kb1, kb3, kbB, ktb, krb, kq0, kl, kD⟩ := CC1.out.env.nm
    have hN5 := CC1.out.env.le
    have h5n := CC1.out.b5n
    have h5l := CC1.out.b5l
    have hqn := CC1.out.qn
    have hql := CC1.out.ql
    have nb5 : b5 ≠ bm := by omega
    have nb7 : u1.heap.size ≠ bm := by omega
    have nb8 : b8 ≠ bm := by omega
    have nq : q ≠ bm := by omega
    have lfb : fb < w5.heap.size := by omega
    have l4 : b4 < w5.heap.size := by omega
    have ltb : tb < w5.heap.size := by omega
    have lrb : rb < w5.heap.size := by omega
    have lbm : bm < w5.heap.size := by omega
    clear hcb' hlx' hfb' hb4' hb1' hb3' hbm' hbB' htb' hrb' hq0' hl' hD' kcb klx kb4 kb1 kb3 kbB ktb krb kq0 kl kD
    have HT : ∀ w', BelowX bm bm w5.heap.size w5 w' → w'.cell? ⟨u1.heap.size, 0, none⟩ = some (.int .i64 1) ∧ w'.cell? ⟨u1.heap.size, 1, none⟩ = some (.int .i64 300) ∧ w'.cell? ⟨u1.heap.size, 2, none⟩ = some (.int .i64 2500) ∧ w'.cell? ⟨u1.heap.size, 3, none⟩ = some (.int .i64 2500) ∧ w'.cell? ⟨b5, 0, none⟩ = some (.int .i64 0) ∧ w'.cell? ⟨b5, 1, none⟩ = some (.int .i64 0) ∧ w'.cell? ⟨b5, 2, none⟩ = some (.int .i64 1000) ∧ w'.cell? ⟨b5, 3, none⟩ = some (.int .i64 1000) ∧ w'.cell? ⟨b5, 4, none⟩ = some (.slice (some ⟨q, qf, none⟩) 1 qc) ∧ w'.cell? ⟨b8, 0, none⟩ = some (.int .i64 740230) ∧ w'.cell? ⟨b8, 1, none⟩ = some (.int .i64 1925230) ∧ w'.cell? ⟨b8, 2, none⟩ = some (.int .i64 0) ∧ w'.cell? ⟨b8, 3, none⟩ = some (.int .i64 0) ∧ w'.cell? ⟨fb, 0, none⟩ = some (.func (.func 78) #[] #[.pointer (some ⟨b4, 0, none⟩), .pointer (some ⟨b1, 0, none⟩), .pointer (some ⟨b3, 0, none⟩)]) := fun w' hb => ⟨(hb.cell ml5 nb7 nb7).trans m0, (hb.cell ml5 nb7 nb7).trans m1, (hb.cell ml5 nb7 nb7).trans m2, (hb.cell ml5 nb7 nb7).trans m3, (hb.cell h5l nb5 nb5).trans CC1.out.s0, (hb.cell h5l nb5 nb5).trans CC1.out.s1, (hb.cell h5l nb5 nb5).trans CC1.out.s2, (hb.cell h5l nb5 nb5).trans CC1.out.s3, (hb.cell h5l nb5 nb5).trans CC1.out.s4, (hb.cell hb8l nb8 nb8).trans t0, (hb.cell hb8l nb8 nb8).trans t1, (hb.cell hb8l nb8 nb8).trans t2, (hb.cell hb8l nb8 nb8).trans t3, (hb.cell lfb kfb kfb).trans CC1.out.env.fc⟩
    have HT' := Lib.hid HT
    clear HT m0 m1 m2 m3 t0 t1 t2 t3
    have hx0 : BelowX bm bm w5.heap.size w5 w5.drew := BelowX.of (Below.refl _ _).drew (Nat.le_refl _)
    refine wp_region_Z (S := (fun w' => w'.cell? ⟨u1.heap.size, 0, none⟩ = some (.int .i64 1) ∧ w'.cell? ⟨u1.heap.size, 1, none⟩ = some (.int .i64 300) ∧ w'.cell? ⟨u1.heap.size, 2, none⟩ = some (.int .i64 2500) ∧ w'.cell? ⟨u1.heap.size, 3, none⟩ = some (.int .i64 2500) ∧ w'.cell? ⟨b5, 0, none⟩ = some (.int .i64 0) ∧ w'.cell? ⟨b5, 1, none⟩ = some (.int .i64 0) ∧ w'.cell? ⟨b5, 2, none⟩ = some (.int .i64 1000) ∧ w'.cell? ⟨b5, 3, none⟩ = some (.int .i64 1000) ∧ w'.cell? ⟨b5, 4, none⟩ = some (.slice (some ⟨q, qf, none⟩) 1 qc) ∧ w'.cell? ⟨b8, 0, none⟩ = some (.int .i64 740230) ∧ w'.cell? ⟨b8, 1, none⟩ = some (.int .i64 1925230) ∧ w'.cell? ⟨b8, 2, none⟩ = some (.int .i64 0) ∧ w'.cell? ⟨b8, 3, none⟩ = some (.int .i64 0) ∧ w'.cell? ⟨fb, 0, none⟩ = some (.func (.func 78) #[] #[.pointer (some ⟨b4, 0, none⟩), .pointer (some ⟨b1, 0, none⟩), .pointer (some ⟨b3, 0, none⟩)]))) 14 (by kernel_rfl) (by kernel_rfl) (by kernel_rfl) (by exact HT'.out _ hx0) (fun hHeld => ?_)
    refine wpAnyZ_take (i := 0) (oi := ⟨some 35, _, _, _, _, _⟩) (v := ?_) (by kernel_rfl) (by kernel_rfl) rfl rfl (by kernel_rfl) (by kernel_rfl) (by kernel_rfl) (fun _ _ _ h => h) (Or.inl ⟨by kernel_rfl, ?_⟩) (by assumption) ?_
    rotate_left
    · (intro w hSw; (try dsimp only at hSw); go_simp; all_goals with_reducible rfl)
    try simp only [Act.put, List.setIfInBounds_toArray, List.set_cons_zero, List.set_cons_succ]
    refine wpAnyZ_take (i := 1) (oi := ⟨some 36, _, _, _, _, _⟩) (v := ?_) (by kernel_rfl) (by kernel_rfl) rfl rfl (by kernel_rfl) (by kernel_rfl) (by kernel_rfl) (fun _ _ _ h => h) (Or.inl ⟨by kernel_rfl, ?_⟩) (by assumption) ?_
    rotate_left
    · (intro w hSw; (try dsimp only at hSw); go_simp; all_goals with_reducible rfl)
    try simp only [Act.put, List.setIfInBounds_toArray, List.set_cons_zero, List.set_cons_succ]
    refine wpAnyZ_take (i := 2) (oi := ⟨some 37, _, _, _, _, _⟩) (v := ?_) (by kernel_rfl) (by kernel_rfl) rfl rfl (by kernel_rfl) (by kernel_rfl) (by kernel_rfl) (fun _ _ _ h => h) (Or.inl ⟨by kernel_rfl, ?_⟩) (by assumption) ?_
    rotate_left
    · (intro w hSw; (try dsimp only at hSw); go_simp; all_goals with_reducible rfl)
    try simp only [Act.put, List.setIfInBounds_toArray, List.set_cons_zero, List.set_cons_succ]
    refine wpAnyZ_take (i := 3) (oi := ⟨some 38, _, _, _, _, _⟩) (v := ?_) (by kernel_rfl) (by kernel_rfl) rfl rfl (by kernel_rfl) (by kernel_rfl) (by kernel_rfl) (fun _ _ _ h => h) (Or.inl ⟨by kernel_rfl, ?_⟩) (by assumption) ?_
    rotate_left
    · (intro w hSw; (try dsimp only at hSw); go_simp; all_goals with_reducible rfl)
    try simp only [Act.put, List.setIfInBounds_toArray, List.set_cons_zero, List.set_cons_succ]
    refine wpAnyZ_take (i := 4) (oi := ⟨some 39, _, _, _, _, _⟩) (v := ?_) (by kernel_rfl) (by kernel_rfl) rfl rfl (by kernel_rfl) (by kernel_rfl) (by kernel_rfl) (fun _ _ _ h => h) (Or.inl ⟨by kernel_rfl, ?_⟩) (by assumption) ?_
    rotate_left
    · (intro w hSw; (try dsimp only at hSw); go_simp; all_goals with_reducible rfl)
    try simp only [Act.put, List.setIfInBounds_toArray, List.set_cons_zero, List.set_cons_succ]
    refine wpAnyZ_take (i := 5) (oi := ⟨some 40, _, _, _, _, _⟩) (v := ?_) (by kernel_rfl) (by kernel_rfl) rfl rfl (by kernel_rfl) (by kernel_rfl) (by kernel_rfl) (fun _ _ _ h => h) (Or.inl ⟨by kernel_rfl, ?_⟩) (by assumption) ?_
    rotate_left
    · (intro w hSw; (try dsimp only at hSw); go_simp; all_goals with_reducible rfl)
    try simp only [Act.put, List.setIfInBounds_toArray, List.set_cons_zero, List.set_cons_succ]
    refine wpAnyZ_take (i := 6) (oi := ⟨some 41, _, _, _, _, _⟩) (v := ?_) (by kernel_rfl) (by kernel_rfl) rfl rfl (by kernel_rfl) (by kernel_rfl) (by kernel_rfl) (fun _ _ _ h => h) (Or.inl ⟨by kernel_rfl, ?_⟩) (by assumption) ?_
    rotate_left
    · (intro w hSw; (try dsimp only at hSw); go_simp; all_goals with_reducible rfl)
    try simp only [Act.put, List.setIfInBounds_toArray, List.set_cons_zero, List.set_cons_succ]
    refine wpAnyZ_take (i := 7) (oi := ⟨some 42, _, _, _, _, _⟩) (v := ?_) (by kernel_rfl) (by kernel_rfl) rfl rfl (by kernel_rfl) (by kernel_rfl) (by kernel_rfl) (fun _ _ _ h => h) (Or.inl ⟨by kernel_rfl, ?_⟩) (by assumption) ?_
    rotate_left
    · (intro w hSw; (try dsimp only at hSw); go_simp; all_goals with_reducible rfl)
    try simp only [Act.put, List.setIfInBounds_toArray, List.set_cons_zero, List.set_cons_succ]
    refine wpAnyZ_take (i := 8) (oi := ⟨some 43, _, _, _, _, _⟩) (v := ?_) (by kernel_rfl) (by kernel_rfl) rfl rfl (by kernel_rfl) (by kernel_rfl) (by kernel_rfl) (fun _ _ _ h => h) (Or.inl ⟨by kernel_rfl, ?_⟩) (by assumption) ?_
    rotate_left
    · (intro w hSw; (try dsimp only at hSw); go_simp; all_goals with_reducible rfl)
    try simp only [Act.put, List.setIfInBounds_toArray, List.set_cons_zero, List.set_cons_succ]
    refine wpAnyZ_take (i := 9) (oi := ⟨some 44, _, _, _, _, _⟩) (v := ?_) (by kernel_rfl) (by kernel_rfl) rfl rfl (by kernel_rfl) (by kernel_rfl) (by kernel_rfl) (fun _ _ _ h => h) (Or.inl ⟨by kernel_rfl, ?_⟩) (by assumption) ?_
    rotate_left
    · (intro w hSw; (try dsimp only at hSw); go_simp; all_goals with_reducible rfl)
    try simp only [Act.put, List.setIfInBounds_toArray, List.set_cons_zero, List.set_cons_succ]
    refine wpAnyZ_take (i := 10) (oi := ⟨some 45, _, _, _, _, _⟩) (v := ?_) (by kernel_rfl) (by kernel_rfl) rfl rfl (by kernel_rfl) (by kernel_rfl) (by kernel_rfl) (fun _ _ _ h => h) (Or.inl ⟨by kernel_rfl, ?_⟩) (by assumption) ?_
    rotate_left
    · (intro w hSw; (try dsimp only at hSw); go_simp; all_goals with_reducible rfl)
    try simp only [Act.put, List.setIfInBounds_toArray, List.set_cons_zero, List.set_cons_succ]
    refine wpAnyZ_call (q := 11) (by kernel_rfl) rfl rfl (fun K hK => ?_)
    go_simp
    refine (decays1_first 600 240 500 1500 b4 b1 b3 bm tb to tcap 10 rb rcap w5.drew (by decide) (by decide) (by decide) (by decide) (by decide) (by decide) ltb lrb hrc.out.1 hrc.out.2 (CC1.out.env.keep (BelowX.of (Below.refl w5.heap.size w5).drew CC1.out.env.le)).rt (CC1.out.env.keep (BelowX.of (Below.refl w5.heap.size w5).drew CC1.out.env.le)).g0 (CC1.out.env.keep (BelowX.of (Below.refl w5.heap.size w5).drew CC1.out.env.le)).g1 (CC1.out.env.keep (BelowX.of (Below.refl w5.heap.size w5).drew CC1.out.env.le)).g2 (CC1.out.env.keep (BelowX.of (Below.refl w5.heap.size w5).drew CC1.out.env.le)).g3 (CC1.out.env.keep (BelowX.of (Below.refl w5.heap.size w5).drew CC1.out.env.le)).m4 CC1.out.mh (CC1.out.env.keep (BelowX.of (Below.refl w5.heap.size w5).drew CC1.out.env.le)).m1 (CC1.out.env.keep (BelowX.of (Below.refl w5.heap.size w5).drew CC1.out.env.le)).m3).mono ?_
    rintro e v1 ⟨bb, W2, rfl, hbb1, hbb2, d0, d1, d2, d3, hbW2, hv1⟩
    have hbb1' : w5.heap.size ≤ bb := hbb1
    have hbW2' : Below w5.heap.size w5 W2 := ((Below.refl w5.heap.size w5).drew).trans hbW2
    have nbb : bb ≠ bm := by omega
    have hx1 : BelowX bm bm w5.heap.size w5 v1 := by rw [hv1]; exact (BelowX.of hbW2' (Nat.le_refl _)).trans ⟨rfl, rfl, rfl, by rw [setBlock_size]; exact Nat.le_refl _, fun kk _ h _ => setBlock_ne W2 bm kk _ h⟩
    have hm1 : v1.heap[bm]? = some (.map #[e300 (.slice (some ⟨bb, 0, none⟩) 1 1)] 1) := by rw [hv1]; exact setBlock_at _ _ _ (Nat.lt_of_lt_of_le lbm hbW2'.size)
    have hbb3 : bb < v1.heap.size := by rw [hv1, setBlock_size]; exact hbb2
    rw [dec_300.1] at d0
    rw [dec_300.2] at d1
    have dd0 := (setBlock_cell W2 bm bb 0 (.map #[e300 (.slice (some ⟨bb, 0, none⟩) 1 1)] 1) nbb).trans d0
    have dd1 := (setBlock_cell W2 bm bb 1 (.map #[e300 (.slice (some ⟨bb, 0, none⟩) 1 1)] 1) nbb).trans d1
    have dd2 := (setBlock_cell W2 bm bb 2 (.map #[e300 (.slice (some ⟨bb, 0, none⟩) 1 1)] 1) nbb).trans d2
    have dd3 := (setBlock_cell W2 bm bb 3 (.map #[e300 (.slice (some ⟨bb, 0, none⟩) 1 1)] 1) nbb).trans d3
    rw [← hv1] at dd0 dd1 dd2 dd3
    have b5b : bb ≠ b5 := by omega
    have bbN : N ≤ bb := by omega
    clear hv1 d0 d1 d2 d3 hbW2 hbW2' hbb1 hbb2
    have rr0 := (hx1.cell hql nq nq).trans CC1.out.r0
    have rr1 := (hx1.cell hql nq nq).trans CC1.out.r1
    have rr2 := (hx1.cell hql nq nq).trans CC1.out.r2
    have rr3 := (hx1.cell hql nq nq).trans CC1.out.r3
    have hqv : q < v1.heap.size := Nat.lt_of_lt_of_le hql hx1.size
    have DD := Lib.hid (And.intro dd0 (And.intro dd1 (And.intro dd2 dd3)))
    have RR := Lib.hid (And.intro rr0 (And.intro rr1 (And.intro rr2 rr3)))
    clear dd0 dd1 dd2 dd3 rr0 rr1 rr2 rr3
    go_wp2_with fail
    refine hK.out _ _ (HT'.out _ hx1) (fun hHeld => ?_)
    clear hK K
    try simp only [Act.put, List.setIfInBounds_toArray, List.set_cons_zero, List.set_cons_succ]
    refine wpAnyZ_call (q := 12) (by kernel_rfl) rfl rfl (fun K hK => ?_)
    go_simp
    refine (behindStep_one 740230 740230 0 0 740230 1925230 0 0 707106781 707106782 (decL 300 240 10) (decH 300 240 10) q qf qc bb 0 1 v1 (by decide) (by decide) (by decide) (by decide) (by decide) (by decide) (by decide) (by decide) (by decide) (by decide) ⟨(dec_bd (s := 300) (h := 240) (by decide) 10).1, (dec_bd (s := 300) (h := 240) (by decide) 10).2.1⟩ ⟨(dec_bd (s := 300) (h := 240) (by decide) 10).2.2.1, (dec_bd (s := 300) (h := 240) (by decide) 10).2.2.2⟩ hqv hbb3 RR.out.1 RR.out.2.1 RR.out.2.2.1 RR.out.2.2.2 DD.out.1 DD.out.2.1 DD.out.2.2.1 DD.out.2.2.2).mono ?_
    rintro e v2 ⟨bn1, rfl, hn1, hn2, n0, n1, n2, n3, hbv2⟩
    rw [show apL 740230 740230 707106781 707106782 = 740230 by decide] at n0
    rw [show apH 740230 1925230 707106781 707106782 = 1087309 by decide] at n1
    rw [(ap_0 _ _).1] at n2
    rw [(ap_0 _ _).2] at n3
    have hx2 : BelowX bm bm w5.heap.size w5 v2 := hx1.trans (BelowX.of hbv2 hx1.size)
    have CD1 := Lib.hid (CC1.out.next (j' := 1) (s' := 300) (p0' := 2500) (p1' := 2500) hx1 hm1 hbv2 hn1 hn2 n0 n1 n2 n3 (fun b hb => by cases hb; exact ⟨bbN, hbb3, b5b, DD.out.1, DD.out.2.1, DD.out.2.2.1, DD.out.2.2.2⟩))
    have s0 := (hx2.cell (i := 0) h5l nb5 nb5).trans CC1.out.s0
    have s1 := (hx2.cell (i := 1) h5l nb5 nb5).trans CC1.out.s1
    have s2 := (hx2.cell (i := 2) h5l nb5 nb5).trans CC1.out.s2
    have s3 := (hx2.cell (i := 3) h5l nb5 nb5).trans CC1.out.s3
    have s4 := (hx2.cell (i := 4) h5l nb5 nb5).trans CC1.out.s4
    have sf : ∀ j, v2.frozen? ⟨b5, j, none⟩ = false := fun j => (hx2.frozen h5l nb5 nb5).trans (CC1.out.sf j)
    clear n0 n1 n2 n3 hn1 hn2 hbv2
    go_wp2_with fail
    refine hK.out _ _ (HT'.out _ hx2) (fun hHeld => ?_)
    clear hK K
    try simp only [Act.put, List.setIfInBounds_toArray, List.set_cons_zero, List.set_cons_succ]
    refine wpAnyZ_take (i := 13) (oi := ⟨some 48, _, _, _, _, _⟩) (v := ?_) (by kernel_rfl) (by kernel_rfl) rfl rfl (by kernel_rfl) (by kernel_rfl) (by kernel_rfl) (fun _ _ _ h => h) (Or.inl ⟨by kernel_rfl, ?_⟩) (by assumption) ?_
    rotate_left
    · (intro w hSw; (try dsimp only at hSw); go_simp; all_goals with_reducible rfl)
    try simp only [Act.put, List.setIfInBounds_toArray, List.set_cons_zero, List.set_cons_succ]
    refine wpAnyZ_last (by kernel_rfl) rfl (fun K hK => ?_)
    go_simp
    go_wp2_with fail
    refine hK.out _ _ ?_
    clear hK K
    try simp only [Act.put, List.setIfInBounds_toArray, List.set_cons_zero, List.set_cons_succ]
    obtain ⟨x1, hx19⟩ : ∃ V, set5 v2 b5 (.int .i64 1) (.int .i64 300) (.int .i64 2500) (.int .i64 2500) (.slice (some ⟨bn1, 0, none⟩) 1 1) = V := ⟨_, rfl⟩
    rw [hx19] at CD1
    unfold set5 at hx19
    rw [hx19]
    clear hx19 s0 s1 s2 s3 s4 sf hHeld hx2 hx1 hx0 HT' DD RR hm1 nb5 nb7 nb8 nq lfb l4 ltb lrb lbm h5n h5l hqn hql hN5 CC1 kfb hqv hbb3 hb8l b8N ml5 mN nbb hbb1'
    gi_wp2_with fail
    rw [roundsIn_succ]
    have ys0 := CD1.out.s0
    have ys1 := CD1.out.s1
    have ys2 := CD1.out.s2
    have ys3 := CD1.out.s3
    have ys4 := CD1.out.s4
    obtain ⟨vb2, hvb2⟩ := CD1.out.bc
    obtain ⟨fn, tmps, assign, body, hy, hR⟩ := HY.out x1 1 300 2500 2500 bn1 0 1 1 vb2 CD1.out.env.le CD1.out.env.rl CD1.out.env.rd hvb2 CD1.out.bf
    gi_wp2_with fail
    refine hR.mono ?_
    rintro e w2 hround
    have CE2 := Lib.hid (CD1.out.round hround)
    have HR2 := Lib.hid hround
    obtain rfl := hround.1
    clear hround hy hR ys0 ys1 ys2 ys3 ys4 hvb2
    have k0 := CE2.out.env.c0
    have k1 := CE2.out.env.c1
    have k2 := CE2.out.env.c2
    have k3 := CE2.out.env.c3
    have k4 := CE2.out.env.c4
    have k5 := CE2.out.env.c5
    have k6 := CE2.out.env.c6
    gi_wp2_with fail
    refine ⟨trivial, (callsIn_wide.2 (mark_0x 1 tcap (some ⟨tb, to, none⟩) _ 1 2 600 4000 4000 rfl (by decide) (by decide) (by decide) (by decide))).mono ?_⟩
    rintro e u2 ⟨rfl, hbu⟩
    have CA2 := Lib.hid (CE2.out.below hbu)
    clear k0 k1 k2 k3 k4 k5 k6 hbu CE2
    gi_upto_region 6 with (fail)
    obtain ⟨w4, hw4⟩ : ∃ V, u2.alloc (.cells #[.int .i64 2, .int .i64 600, .int .i64 4000, .int .i64 4000] 91) = V := ⟨_, rfl⟩
    rw [hw4]
    have CB2 := Lib.hid (CA2.out.below (V' := w4) (by rw [← hw4]; exact (Below.refl _ _).alloc (Nat.le_refl _) _))
    have m0 : w4.cell? ⟨u2.heap.size, 0, none⟩ = some (.int .i64 2) := by rw [← hw4]; simp [go_sem]
    have m1 : w4.cell? ⟨u2.heap.size, 1, none⟩ = some (.int .i64 600) := by rw [← hw4]; simp [go_sem]
    have m2 : w4.cell? ⟨u2.heap.size, 2, none⟩ = some (.int .i64 4000) := by rw [← hw4]; simp [go_sem]
    have m3 : w4.cell? ⟨u2.heap.size, 3, none⟩ = some (.int .i64 4000) := by rw [← hw4]; simp [go_sem]
    have ml : u2.heap.size < w4.heap.size := by rw [← hw4]; simp
    have mN : N ≤ u2.heap.size := CA2.out.env.le
    have MM := Lib.hid (And.intro m0 (And.intro m1 (And.intro m2 m3)))
    clear hw4 CA2 m0 m1 m2 m3
    gi_cut [8, 15, 16] from 9 (fun s8 s15 s16 wx => s15 = .int .i64 2 ∧ s16 = .int .i64 1 ∧ R6 w4 1925230 3110230 0 0 s8 wx)
    case first =>
      refine wpIn_wide.2 ?_
      have hcl : cb < w4.heap.size := Nat.lt_of_lt_of_le CB2.out.env.lt.1 CB2.out.env.le
      have HS : ∀ w', Below w4.heap.size w4 w' → w'.cell? ⟨cb, 3, none⟩ = some (.int .i64 210) ∧ w'.cell? ⟨cb, 4, none⟩ = some (.int .i64 0) ∧ w'.cell? ⟨b5, 0, none⟩ = some (.int .i64 1) ∧ w'.cell? ⟨b5, 1, none⟩ = some (.int .i64 300) ∧ w'.cell? ⟨b5, 2, none⟩ = some (.int .i64 2500) ∧ w'.cell? ⟨b5, 3, none⟩ = some (.int .i64 2500) ∧ w'.cell? ⟨u2.heap.size, 0, none⟩ = some (.int .i64 2) ∧ w'.cell? ⟨u2.heap.size, 1, none⟩ = some (.int .i64 600) ∧ w'.cell? ⟨u2.heap.size, 2, none⟩ = some (.int .i64 4000) ∧ w'.cell? ⟨u2.heap.size, 3, none⟩ = some (.int .i64 4000) := fun w' hb => ⟨(hb.cell (p := ⟨cb, 3, none⟩) hcl).trans CB2.out.env.c3, (hb.cell (p := ⟨cb, 4, none⟩) hcl).trans CB2.out.env.c4, (hb.cell (p := ⟨b5, 0, none⟩) CB2.out.b5l).trans CB2.out.s0, (hb.cell (p := ⟨b5, 1, none⟩) CB2.out.b5l).trans CB2.out.s1, (hb.cell (p := ⟨b5, 2, none⟩) CB2.out.b5l).trans CB2.out.s2, (hb.cell (p := ⟨b5, 3, none⟩) CB2.out.b5l).trans CB2.out.s3, (hb.cell (p := ⟨u2.heap.size, 0, none⟩) ml).trans MM.out.1, (hb.cell (p := ⟨u2.heap.size, 1, none⟩) ml).trans MM.out.2.1, (hb.cell (p := ⟨u2.heap.size, 2, none⟩) ml).trans MM.out.2.2.1, (hb.cell (p := ⟨u2.heap.size, 3, none⟩) ml).trans MM.out.2.2.2⟩
      have HS' := Lib.hid HS
      clear HS hcl
      refine wp_region_held_drew (S := (fun w' => w'.cell? ⟨cb, 3, none⟩ = some (.int .i64 210) ∧ w'.cell? ⟨cb, 4, none⟩ = some (.int .i64 0) ∧ w'.cell? ⟨b5, 0, none⟩ = some (.int .i64 1) ∧ w'.cell? ⟨b5, 1, none⟩ = some (.int .i64 300) ∧ w'.cell? ⟨b5, 2, none⟩ = some (.int .i64 2500) ∧ w'.cell? ⟨b5, 3, none⟩ = some (.int .i64 2500) ∧ w'.cell? ⟨u2.heap.size, 0, none⟩ = some (.int .i64 2) ∧ w'.cell? ⟨u2.heap.size, 1, none⟩ = some (.int .i64 600) ∧ w'.cell? ⟨u2.heap.size, 2, none⟩ = some (.int .i64 4000) ∧ w'.cell? ⟨u2.heap.size, 3, none⟩ = some (.int .i64 4000))) (by kernel_rfl) (by exact HS'.out _ (Below.refl w4.heap.size w4).drew) (fun hHeld => ?_)
      refine wpAnyH_take (i := 0) (oi := ⟨some 27, _, _, _, _, _⟩) (v := ?_) rfl (by kernel_rfl) (by kernel_rfl) (by kernel_rfl) (fun _ _ _ h => h) (Or.inl ⟨by kernel_rfl, ?_⟩) (by assumption) ?_
      rotate_left
      · (intro w hSw; (try dsimp only at hSw); go_simp; all_goals with_reducible rfl)
      try simp only [Act.put, List.setIfInBounds_toArray, List.set_cons_zero, List.set_cons_succ]
      refine wpAnyH_take (i := 1) (oi := ⟨some 28, _, _, _, _, _⟩) (v := ?_) rfl (by kernel_rfl) (by kernel_rfl) (by kernel_rfl) (fun _ _ _ h => h) (Or.inl ⟨by kernel_rfl, ?_⟩) (by assumption) ?_
      rotate_left
      · (intro w hSw; (try dsimp only at hSw); go_simp; all_goals with_reducible rfl)
      try simp only [Act.put, List.setIfInBounds_toArray, List.set_cons_zero, List.set_cons_succ]
      refine wpAnyH_take (i := 2) (oi := ⟨some 29, _, _, _, _, _⟩) (v := ?_) rfl (by kernel_rfl) (by kernel_rfl) (by kernel_rfl) (fun _ _ _ h => h) (Or.inl ⟨by kernel_rfl, ?_⟩) (by assumption) ?_
      rotate_left
      · (intro w hSw; (try dsimp only at hSw); go_simp; all_goals with_reducible rfl)
      try simp only [Act.put, List.setIfInBounds_toArray, List.set_cons_zero, List.set_cons_succ]
      refine wpAnyH_take (i := 3) (oi := ⟨some 30, _, _, _, _, _⟩) (v := ?_) rfl (by kernel_rfl) (by kernel_rfl) (by kernel_rfl) (fun _ _ _ h => h) (Or.inl ⟨by kernel_rfl, ?_⟩) (by assumption) ?_
      rotate_left
      · (intro w hSw; (try dsimp only at hSw); go_simp; all_goals with_reducible rfl)
      try simp only [Act.put, List.setIfInBounds_toArray, List.set_cons_zero, List.set_cons_succ]
      refine wpAnyH_take (i := 4) (oi := ⟨some 31, _, _, _, _, _⟩) (v := ?_) rfl (by kernel_rfl) (by kernel_rfl) (by kernel_rfl) (fun _ _ _ h => h) (Or.inl ⟨by kernel_rfl, ?_⟩) (by assumption) ?_
      rotate_left
      · (intro w hSw; (try dsimp only at hSw); go_simp; all_goals with_reducible rfl)
      try simp only [Act.put, List.setIfInBounds_toArray, List.set_cons_zero, List.set_cons_succ]
      refine wpAnyH_take (i := 5) (oi := ⟨some 32, _, _, _, _, _⟩) (v := ?_) rfl (by kernel_rfl) (by kernel_rfl) (by kernel_rfl) (fun _ _ _ h => h) (Or.inl ⟨by kernel_rfl, ?_⟩) (by assumption) ?_
      rotate_left
      · (intro w hSw; (try dsimp only at hSw); go_simp; all_goals with_reducible rfl)
      try simp only [Act.put, List.setIfInBounds_toArray, List.set_cons_zero, List.set_cons_succ]
      refine wpAnyH_ready (rs := [6, 8]) (by kernel_rfl) (by simp) ?_
      refine AllReadyH.cons rfl (fun K hK => ?_) (AllReadyH.cons rfl (fun K hK => ?_) (AllReadyH.nil))
      · skip
        go_simp
        refine (pres_x 1 300 2500 2500 2 600 4000 4000 2500 4000 _ (by decide) (by decide)).mono ?_
        rintro e v1 ⟨rfl, hb1⟩
        have z1 := hb1.size
        (try simp at z1)
        have hB1 : Below w4.heap.size w4 v1 := ((Below.refl w4.heap.size w4).drew).trans (hb1.mono ((Below.refl w4.heap.size w4).drew).size)
        clear hb1
        go_wp2_with fail
        refine hK.out _ _ (HS'.out _ (hB1)) (fun hHeld => ?_)
        clear hK K
        try simp only [Act.put, List.setIfInBounds_toArray, List.set_cons_zero, List.set_cons_succ]
        refine wpAnyH_ready (rs := [7, 8]) (by kernel_rfl) (by simp) ?_
        refine AllReadyH.cons rfl (fun K hK => ?_) (AllReadyH.cons rfl (fun K hK => ?_) (AllReadyH.nil))
        · skip
          go_simp
          refine (breath_x 2500 4000 1925230 3110230 _ (by decide) (by decide) (by decide) (by decide)).mono ?_
          rintro e v2 ⟨rfl, hb2⟩
          have z2 := hb2.size
          (try simp at z2)
          have hB2 : Below w4.heap.size w4 v2 := (hB1).trans (hb2.mono (hB1).size)
          clear hb2
          go_wp2_with fail
          refine hK.out _ _ (HS'.out _ (hB2)) (fun hHeld => ?_)
          clear hK K
          try simp only [Act.put, List.setIfInBounds_toArray, List.set_cons_zero, List.set_cons_succ]
          refine wpAnyH_ready (rs := [8]) (by kernel_rfl) (by simp) ?_
          refine AllReadyH.cons rfl (fun K hK => ?_) (AllReadyH.nil)
          go_simp
          go_wp2_with fail
          refine hK.out _ _ (HS'.out _ ((hB2).alloc (hB2).size _)) (fun hHeld => ?_)
          clear hK K
          try simp only [Act.put, List.setIfInBounds_toArray, List.set_cons_zero, List.set_cons_succ]
          have lt2a : v2.heap.size < (v2.alloc (.cells #[.int .i64 0, .int .i64 0, .int .i64 0, .int .i64 0] 74)).heap.size := by simp
          refine wpAnyH_ready (rs := [9]) (by kernel_rfl) (by simp) ?_
          refine AllReadyH.cons rfl (fun K hK => ?_) (AllReadyH.nil)
          go_simp
          go_wp2_with fail
          refine hK.out _ _ (HS'.out _ ((hB2).alloc (hB2).size _)) (fun hHeld => ?_)
          clear hK K
          try simp only [Act.put, List.setIfInBounds_toArray, List.set_cons_zero, List.set_cons_succ]
          refine wpAnyH_done (by kernel_rfl) ?_ _
          go_wp2_with fail
          gi_meet
          exact ⟨rfl, rfl, R6.new (hB2)⟩
        · skip
          go_simp
          go_wp2_with fail
          refine hK.out _ _ (HS'.out _ ((hB1).alloc (hB1).size _)) (fun hHeld => ?_)
          clear hK K
          try simp only [Act.put, List.setIfInBounds_toArray, List.set_cons_zero, List.set_cons_succ]
          have lt1a : v1.heap.size < (v1.alloc (.cells #[.int .i64 0, .int .i64 0, .int .i64 0, .int .i64 0] 74)).heap.size := by simp
          refine wpAnyH_ready (rs := [7]) (by kernel_rfl) (by simp) ?_
          refine AllReadyH.cons rfl (fun K hK => ?_) (AllReadyH.nil)
          go_simp
          refine (breath_x 2500 4000 1925230 3110230 _ (by decide) (by decide) (by decide) (by decide)).mono ?_
          rintro e v2 ⟨rfl, hb2⟩
          have z2 := hb2.size
          (try simp at z2)
          have has2 : (∀ i, i < 4 → ∃ v, v2.cell? ⟨v1.heap.size, i, none⟩ = some v) ∧ (∀ j, v2.frozen? ⟨v1.heap.size, j, none⟩ = false) := has4_below (w := (v1.alloc (.cells #[.int .i64 0, .int .i64 0, .int .i64 0, .int .i64 0] 74))) (new4_is v1 _ _ _ _ 74) hb2 lt1a
          have lt2 : v1.heap.size < v2.heap.size := Nat.lt_of_lt_of_le lt1a hb2.size
          have hB2 : Below w4.heap.size w4 v2 := ((hB1).alloc (hB1).size _).trans (hb2.mono ((hB1).alloc (hB1).size _).size)
          clear hb2
          go_wp2_with fail
          refine hK.out _ _ (HS'.out _ (hB2)) (fun hHeld => ?_)
          clear hK K
          try simp only [Act.put, List.setIfInBounds_toArray, List.set_cons_zero, List.set_cons_succ]
          have hab : w4.heap.size ≤ v1.heap.size := (hB1).size
          obtain ⟨he, hf⟩ := has2
          obtain ⟨ev0, e0⟩ := he 0 (by omega)
          obtain ⟨ev1, e1⟩ := he 1 (by omega)
          obtain ⟨ev2, e2⟩ := he 2 (by omega)
          obtain ⟨ev3, e3⟩ := he 3 (by omega)
          refine wpAnyH_ready (rs := [9]) (by kernel_rfl) (by simp) ?_
          refine AllReadyH.cons rfl (fun K hK => ?_) (AllReadyH.nil)
          go_simp
          go_wp2_with fail
          refine hK.out _ _ (HS'.out _ (set4_below (hB2) hab)) (fun hHeld => ?_)
          clear hK K
          try simp only [Act.put, List.setIfInBounds_toArray, List.set_cons_zero, List.set_cons_succ]
          refine wpAnyH_done (by kernel_rfl) ?_ _
          go_wp2_with fail
          gi_meet
          exact ⟨rfl, rfl, R6.of (hB2) hab lt2 ⟨he, hf⟩⟩
      · skip
        go_simp
        go_wp2_with fail
        refine hK.out _ _ (HS'.out _ (((Below.refl w4.heap.size w4).drew).alloc ((Below.refl w4.heap.size w4).drew).size _)) (fun hHeld => ?_)
        clear hK K
        try simp only [Act.put, List.setIfInBounds_toArray, List.set_cons_zero, List.set_cons_succ]
        have lt0a : w4.heap.size < (w4.drew.alloc (.cells #[.int .i64 0, .int .i64 0, .int .i64 0, .int .i64 0] 74)).heap.size := by simp
        refine wpAnyH_ready (rs := [6]) (by kernel_rfl) (by simp) ?_
        refine AllReadyH.cons rfl (fun K hK => ?_) (AllReadyH.nil)
        go_simp
        refine (pres_x 1 300 2500 2500 2 600 4000 4000 2500 4000 _ (by decide) (by decide)).mono ?_
        rintro e v1 ⟨rfl, hb1⟩
        have z1 := hb1.size
        (try simp at z1)
        have has1 : (∀ i, i < 4 → ∃ v, v1.cell? ⟨w4.heap.size, i, none⟩ = some v) ∧ (∀ j, v1.frozen? ⟨w4.heap.size, j, none⟩ = false) := has4_below (w := (w4.drew.alloc (.cells #[.int .i64 0, .int .i64 0, .int .i64 0, .int .i64 0] 74))) (new4_is w4.drew _ _ _ _ 74) hb1 lt0a
        have lt1 : w4.heap.size < v1.heap.size := Nat.lt_of_lt_of_le lt0a hb1.size
        have hB1 : Below w4.heap.size w4 v1 := (((Below.refl w4.heap.size w4).drew).alloc ((Below.refl w4.heap.size w4).drew).size _).trans (hb1.mono (((Below.refl w4.heap.size w4).drew).alloc ((Below.refl w4.heap.size w4).drew).size _).size)
        clear hb1
        go_wp2_with fail
        refine hK.out _ _ (HS'.out _ (hB1)) (fun hHeld => ?_)
        clear hK K
        try simp only [Act.put, List.setIfInBounds_toArray, List.set_cons_zero, List.set_cons_succ]
        refine wpAnyH_ready (rs := [7]) (by kernel_rfl) (by simp) ?_
        refine AllReadyH.cons rfl (fun K hK => ?_) (AllReadyH.nil)
        go_simp
        refine (breath_x 2500 4000 1925230 3110230 _ (by decide) (by decide) (by decide) (by decide)).mono ?_
        rintro e v2 ⟨rfl, hb2⟩
        have z2 := hb2.size
        (try simp at z2)
        have has2 : (∀ i, i < 4 → ∃ v, v2.cell? ⟨w4.heap.size, i, none⟩ = some v) ∧ (∀ j, v2.frozen? ⟨w4.heap.size, j, none⟩ = false) := has4_below (w := v1) has1 hb2 lt1
        have lt2 : w4.heap.size < v2.heap.size := Nat.lt_of_lt_of_le lt1 hb2.size
        have hB2 : Below w4.heap.size w4 v2 := (hB1).trans (hb2.mono (hB1).size)
        clear hb2
        go_wp2_with fail
        refine hK.out _ _ (HS'.out _ (hB2)) (fun hHeld => ?_)
        clear hK K
        try simp only [Act.put, List.setIfInBounds_toArray, List.set_cons_zero, List.set_cons_succ]
        have hab : w4.heap.size ≤ w4.heap.size := ((Below.refl w4.heap.size w4).drew).size
        obtain ⟨he, hf⟩ := has2
        obtain ⟨ev0, e0⟩ := he 0 (by omega)
        obtain ⟨ev1, e1⟩ := he 1 (by omega)
        obtain ⟨ev2, e2⟩ := he 2 (by omega)
        obtain ⟨ev3, e3⟩ := he 3 (by omega)
        refine wpAnyH_ready (rs := [9]) (by kernel_rfl) (by simp) ?_
        refine AllReadyH.cons rfl (fun K hK => ?_) (AllReadyH.nil)
        go_simp
        go_wp2_with fail
        refine hK.out _ _ (HS'.out _ (set4_below (hB2) hab)) (fun hHeld => ?_)
        clear hK K
        try simp only [Act.put, List.setIfInBounds_toArray, List.set_cons_zero, List.set_cons_succ]
        refine wpAnyH_done (by kernel_rfl) ?_ _
        go_wp2_with fail
        gi_meet
        exact ⟨rfl, rfl, R6.of (hB2) hab lt2 ⟨he, hf⟩⟩
    case rest =>
    obtain ⟨rfl, rfl, b8, rfl, hb8n, hb8l, t0, t1, t2, t3, hB5⟩ := hcut
    have CC2 := Lib.hid (CB2.out.below hB5)
    obtain ⟨w5, hw5⟩ : ∃ V, V = wc := ⟨_, rfl⟩
    rw [← hw5] at t0 t1 t2 t3 hB5 CC2 hb8l
    rw [← hw5]
    have m0 : w5.cell? ⟨u2.heap.size, 0, none⟩ = some (.int .i64 2) := (hB5.cell (p := ⟨u2.heap.size, 0, none⟩) ml).trans MM.out.1
    have m1 : w5.cell? ⟨u2.heap.size, 1, none⟩ = some (.int .i64 600) := (hB5.cell (p := ⟨u2.heap.size, 1, none⟩) ml).trans MM.out.2.1
    have m2 : w5.cell? ⟨u2.heap.size, 2, none⟩ = some (.int .i64 4000) := (hB5.cell (p := ⟨u2.heap.size, 2, none⟩) ml).trans MM.out.2.2.1
    have m3 : w5.cell? ⟨u2.heap.size, 3, none⟩ = some (.int .i64 4000) := (hB5.cell (p := ⟨u2.heap.size, 3, none⟩) ml).trans MM.out.2.2.2
    have ml5 : u2.heap.size < w5.heap.size := Nat.lt_of_lt_of_le ml hB5.size
    have b8N : N ≤ b8 := by have := CB2.out.env.le; omega
    clear hw5 MM ml hB5 CB2 hb8n
    gi_upto_region 7 with (fail)
    refine wpIn_wide.2 ?_
    obtain ⟨hcb', hlx', hfb', hb4', hb1', hb3', hbm', hbB', htb', hrb', hq0', hl', hD'⟩ := CC2.out.env.lt
    obtain ⟨kcb, klx, kfb, kb4, kb1, kb3, kbB, ktb, krb, kq0, kl, kD⟩ := CC2.out.env.nm
    have hN5 := CC2.out.env.le
    have h5n := CC2.out.b5n
    have h5l := CC2.out.b5l
    have hqn := CC2.out.qn
    have hql := CC2.out.ql
    have nb5 : b5 ≠ bm := by omega
    have nb7 : u2.heap.size ≠ bm := by omega
    have nb8 : b8 ≠ bm := by omega
    have nq : bn1 ≠ bm := by omega
    have lfb : fb < w5.heap.size := by omega
    have l4 : b4 < w5.heap.size := by omega
    have ltb : tb < w5.heap.size := by omega
    have lrb : rb < w5.heap.size := by omega
    have lbm : bm < w5.heap.size := by omega
    clear hcb' hlx' hfb' hb4' hb1' hb3' hbm' hbB' htb' hrb' hq0' hl' hD' kcb klx kb4 kb1 kb3 kbB ktb krb kq0 kl kD
    have HT : ∀ w', BelowX bm bm w5.heap.size w5 w' → w'.cell? ⟨u2.heap.size, 0, none⟩ = some (.int .i64 2) ∧ w'.cell? ⟨u2.heap.size, 1, none⟩ = some (.int .i64 600) ∧ w'.cell? ⟨u2.heap.size, 2, none⟩ = some (.int .i64 4000) ∧ w'.cell? ⟨u2.heap.size, 3, none⟩ = some (.int .i64 4000) ∧ w'.cell? ⟨b5, 0, none⟩ = some (.int .i64 1) ∧ w'.cell? ⟨b5, 1, none⟩ = some (.int .i64 300) ∧ w'.cell? ⟨b5, 2, none⟩ = some (.int .i64 2500) ∧ w'.cell? ⟨b5, 3, none⟩ = some (.int .i64 2500) ∧ w'.cell? ⟨b5, 4, none⟩ = some (.slice (some ⟨bn1, 0, none⟩) 1 1) ∧ w'.cell? ⟨b8, 0, none⟩ = some (.int .i64 1925230) ∧ w'.cell? ⟨b8, 1, none⟩ = some (.int .i64 3110230) ∧ w'.cell? ⟨b8, 2, none⟩ = some (.int .i64 0) ∧ w'.cell? ⟨b8, 3, none⟩ = some (.int .i64 0) ∧ w'.cell? ⟨fb, 0, none⟩ = some (.func (.func 78) #[] #[.pointer (some ⟨b4, 0, none⟩), .pointer (some ⟨b1, 0, none⟩), .pointer (some ⟨b3, 0, none⟩)]) := fun w' hb => ⟨(hb.cell ml5 nb7 nb7).trans m0, (hb.cell ml5 nb7 nb7).trans m1, (hb.cell ml5 nb7 nb7).trans m2, (hb.cell ml5 nb7 nb7).trans m3, (hb.cell h5l nb5 nb5).trans CC2.out.s0, (hb.cell h5l nb5 nb5).trans CC2.out.s1, (hb.cell h5l nb5 nb5).trans CC2.out.s2, (hb.cell h5l nb5 nb5).trans CC2.out.s3, (hb.cell h5l nb5 nb5).trans CC2.out.s4, (hb.cell hb8l nb8 nb8).trans t0, (hb.cell hb8l nb8 nb8).trans t1, (hb.cell hb8l nb8 nb8).trans t2, (hb.cell hb8l nb8 nb8).trans t3, (hb.cell lfb kfb kfb).trans CC2.out.env.fc⟩
    have HT' := Lib.hid HT
    clear HT m0 m1 m2 m3 t0 t1 t2 t3
    have hx0 : BelowX bm bm w5.heap.size w5 w5.drew := BelowX.of (Below.refl _ _).drew (Nat.le_refl _)
    refine wp_region_Z (S := (fun w' => w'.cell? ⟨u2.heap.size, 0, none⟩ = some (.int .i64 2) ∧ w'.cell? ⟨u2.heap.size, 1, none⟩ = some (.int .i64 600) ∧ w'.cell? ⟨u2.heap.size, 2, none⟩ = some (.int .i64 4000) ∧ w'.cell? ⟨u2.heap.size, 3, none⟩ = some (.int .i64 4000) ∧ w'.cell? ⟨b5, 0, none⟩ = some (.int .i64 1) ∧ w'.cell? ⟨b5, 1, none⟩ = some (.int .i64 300) ∧ w'.cell? ⟨b5, 2, none⟩ = some (.int .i64 2500) ∧ w'.cell? ⟨b5, 3, none⟩ = some (.int .i64 2500) ∧ w'.cell? ⟨b5, 4, none⟩ = some (.slice (some ⟨bn1, 0, none⟩) 1 1) ∧ w'.cell? ⟨b8, 0, none⟩ = some (.int .i64 1925230) ∧ w'.cell? ⟨b8, 1, none⟩ = some (.int .i64 3110230) ∧ w'.cell? ⟨b8, 2, none⟩ = some (.int .i64 0) ∧ w'.cell? ⟨b8, 3, none⟩ = some (.int .i64 0) ∧ w'.cell? ⟨fb, 0, none⟩ = some (.func (.func 78) #[] #[.pointer (some ⟨b4, 0, none⟩), .pointer (some ⟨b1, 0, none⟩), .pointer (some ⟨b3, 0, none⟩)]))) 14 (by kernel_rfl) (by kernel_rfl) (by kernel_rfl) (by exact HT'.out _ hx0) (fun hHeld => ?_)
    refine wpAnyZ_take (i := 0) (oi := ⟨some 35, _, _, _, _, _⟩) (v := ?_) (by kernel_rfl) (by kernel_rfl) rfl rfl (by kernel_rfl) (by kernel_rfl) (by kernel_rfl) (fun _ _ _ h => h) (Or.inl ⟨by kernel_rfl, ?_⟩) (by assumption) ?_
    rotate_left
    · (intro w hSw; (try dsimp only at hSw); go_simp; all_goals with_reducible rfl)
    try simp only [Act.put, List.setIfInBounds_toArray, List.set_cons_zero, List.set_cons_succ]
    refine wpAnyZ_take (i := 1) (oi := ⟨some 36, _, _, _, _, _⟩) (v := ?_) (by kernel_rfl) (by kernel_rfl) rfl rfl (by kernel_rfl) (by kernel_rfl) (by kernel_rfl) (fun _ _ _ h => h) (Or.inl ⟨by kernel_rfl, ?_⟩) (by assumption) ?_
    rotate_left
    · (intro w hSw; (try dsimp only at hSw); go_simp; all_goals with_reducible rfl)
    try simp only [Act.put, List.setIfInBounds_toArray, List.set_cons_zero, List.set_cons_succ]
    refine wpAnyZ_take (i := 2) (oi := ⟨some 37, _, _, _, _, _⟩) (v := ?_) (by kernel_rfl) (by kernel_rfl) rfl rfl (by kernel_rfl) (by kernel_rfl) (by kernel_rfl) (fun _ _ _ h => h) (Or.inl ⟨by kernel_rfl, ?_⟩) (by assumption) ?_
    rotate_left
    · (intro w hSw; (try dsimp only at hSw); go_simp; all_goals with_reducible rfl)
    try simp only [Act.put, List.setIfInBounds_toArray, List.set_cons_zero, List.set_cons_succ]
    refine wpAnyZ_take (i := 3) (oi := ⟨some 38, _, _, _, _, _⟩) (v := ?_) (by kernel_rfl) (by kernel_rfl) rfl rfl (by kernel_rfl) (by kernel_rfl) (by kernel_rfl) (fun _ _ _ h => h) (Or.inl ⟨by kernel_rfl, ?_⟩) (by assumption) ?_
    rotate_left
    · (intro w hSw; (try dsimp only at hSw); go_simp; all_goals with_reducible rfl)
    try simp only [Act.put, List.setIfInBounds_toArray, List.set_cons_zero, List.set_cons_succ]
    refine wpAnyZ_take (i := 4) (oi := ⟨some 39, _, _, _, _, _⟩) (v := ?_) (by kernel_rfl) (by kernel_rfl) rfl rfl (by kernel_rfl) (by kernel_rfl) (by kernel_rfl) (fun _ _ _ h => h) (Or.inl ⟨by kernel_rfl, ?_⟩) (by assumption) ?_
    rotate_left
    · (intro w hSw; (try dsimp only at hSw); go_simp; all_goals with_reducible rfl)
    try simp only [Act.put, List.setIfInBounds_toArray, List.set_cons_zero, List.set_cons_succ]
    refine wpAnyZ_take (i := 5) (oi := ⟨some 40, _, _, _, _, _⟩) (v := ?_) (by kernel_rfl) (by kernel_rfl) rfl rfl (by kernel_rfl) (by kernel_rfl) (by kernel_rfl) (fun _ _ _ h => h) (Or.inl ⟨by kernel_rfl, ?_⟩) (by assumption) ?_
    rotate_left
    · (intro w hSw; (try dsimp only at hSw); go_simp; all_goals with_reducible rfl)
    try simp only [Act.put, List.setIfInBounds_toArray, List.set_cons_zero, List.set_cons_succ]
    refine wpAnyZ_take (i := 6) (oi := ⟨some 41, _, _, _, _, _⟩) (v := ?_) (by kernel_rfl) (by kernel_rfl) rfl rfl (by kernel_rfl) (by kernel_rfl) (by kernel_rfl) (fun _ _ _ h => h) (Or.inl ⟨by kernel_rfl, ?_⟩) (by assumption) ?_
    rotate_left
    · (intro w hSw; (try dsimp only at hSw); go_simp; all_goals with_reducible rfl)
    try simp only [Act.put, List.setIfInBounds_toArray, List.set_cons_zero, List.set_cons_succ]
    refine wpAnyZ_take (i := 7) (oi := ⟨some 42, _, _, _, _, _⟩) (v := ?_) (by kernel_rfl) (by kernel_rfl) rfl rfl (by kernel_rfl) (by kernel_rfl) (by kernel_rfl) (fun _ _ _ h => h) (Or.inl ⟨by kernel_rfl, ?_⟩) (by assumption) ?_
    rotate_left
    · (intro w hSw; (try dsimp only at hSw); go_simp; all_goals with_reducible rfl)
    try simp only [Act.put, List.setIfInBounds_toArray, List.set_cons_zero, List.set_cons_succ]
    refine wpAnyZ_take (i := 8) (oi := ⟨some 43, _, _, _, _, _⟩) (v := ?_) (by kernel_rfl) (by kernel_rfl) rfl rfl (by kernel_rfl) (by kernel_rfl) (by kernel_rfl) (fun _ _ _ h => h) (Or.inl ⟨by kernel_rfl, ?_⟩) (by assumption) ?_
    rotate_left
    · (intro w hSw; (try dsimp only at hSw); go_simp; all_goals with_reducible rfl)
    try simp only [Act.put, List.setIfInBounds_toArray, List.set_cons_zero, List.set_cons_succ]
    refine wpAnyZ_take (i := 9) (oi := ⟨some 44, _, _, _, _, _⟩) (v := ?_) (by kernel_rfl) (by kernel_rfl) rfl rfl (by kernel_rfl) (by kernel_rfl) (by kernel_rfl) (fun _ _ _ h => h) (Or.inl ⟨by kernel_rfl, ?_⟩) (by assumption) ?_
    rotate_left
    · (intro w hSw; (try dsimp only at hSw); go_simp; all_goals with_reducible rfl)
    try simp only [Act.put, List.setIfInBounds_toArray, List.set_cons_zero, List.set_cons_succ]
    refine wpAnyZ_take (i := 10) (oi := ⟨some 45, _, _, _, _, _⟩) (v := ?_) (by kernel_rfl) (by kernel_rfl) rfl rfl (by kernel_rfl) (by kernel_rfl) (by kernel_rfl) (fun _ _ _ h => h) (Or.inl ⟨by kernel_rfl, ?_⟩) (by assumption) ?_
    rotate_left
    · (intro w hSw; (try dsimp only at hSw); go_simp; all_goals with_reducible rfl)
    try simp only [Act.put, List.setIfInBounds_toArray, List.set_cons_zero, List.set_cons_succ]
    refine wpAnyZ_call (q := 11) (by kernel_rfl) rfl rfl (fun K hK => ?_)
    go_simp
    refine (decays1_again b4 b1 b3 bm bb w5.drew (CC2.out.env.keep (BelowX.of (Below.refl w5.heap.size w5).drew CC2.out.env.le)).m4 CC2.out.mh).mono ?_
    rintro e v1 ⟨rfl, hv1⟩
    have hx1 : BelowX bm bm w5.heap.size w5 v1 := by rw [← hv1]; exact hx0
    have hm1 : v1.heap[bm]? = some (.map #[e300 (.slice (some ⟨bb, 0, none⟩) 1 1)] 1) := by rw [← hv1]; exact CC2.out.mh
    obtain ⟨bbN, hbb5, b5b, q0', q1', q2', q3'⟩ := CC2.out.dk bb rfl
    have nbb : bb ≠ bm := by have := CC2.out.env.lt.2.2.2.2.2.2.1; omega
    have hbb1' : N ≤ bb := bbN
    have hbb3 : bb < v1.heap.size := Nat.lt_of_lt_of_le hbb5 hx1.size
    have dd0 := (hx1.cell (i := 0) hbb5 nbb nbb).trans q0'
    have dd1 := (hx1.cell (i := 1) hbb5 nbb nbb).trans q1'
    have dd2 := (hx1.cell (i := 2) hbb5 nbb nbb).trans q2'
    have dd3 := (hx1.cell (i := 3) hbb5 nbb nbb).trans q3'
    clear hv1 q0' q1' q2' q3'
    have rr0 := (hx1.cell hql nq nq).trans CC2.out.r0
    have rr1 := (hx1.cell hql nq nq).trans CC2.out.r1
    have rr2 := (hx1.cell hql nq nq).trans CC2.out.r2
    have rr3 := (hx1.cell hql nq nq).trans CC2.out.r3
    have hqv : bn1 < v1.heap.size := Nat.lt_of_lt_of_le hql hx1.size
    have DD := Lib.hid (And.intro dd0 (And.intro dd1 (And.intro dd2 dd3)))
    have RR := Lib.hid (And.intro rr0 (And.intro rr1 (And.intro rr2 rr3)))
    clear dd0 dd1 dd2 dd3 rr0 rr1 rr2 rr3
    go_wp2_with fail
    refine hK.out _ _ (HT'.out _ hx1) (fun hHeld => ?_)
    clear hK K
    try simp only [Act.put, List.setIfInBounds_toArray, List.set_cons_zero, List.set_cons_succ]
    refine wpAnyZ_call (q := 12) (by kernel_rfl) rfl rfl (fun K hK => ?_)
    go_simp
    refine (behindStep_one 740230 1087309 0 0 1925230 3110230 0 0 707106781 707106782 (decL 300 240 10) (decH 300 240 10) bn1 0 1 bb 0 1 v1 (by decide) (by decide) (by decide) (by decide) (by decide) (by decide) (by decide) (by decide) (by decide) (by decide) ⟨(dec_bd (s := 300) (h := 240) (by decide) 10).1, (dec_bd (s := 300) (h := 240) (by decide) 10).2.1⟩ ⟨(dec_bd (s := 300) (h := 240) (by decide) 10).2.2.1, (dec_bd (s := 300) (h := 240) (by decide) 10).2.2.2⟩ hqv hbb3 RR.out.1 RR.out.2.1 RR.out.2.2.1 RR.out.2.2.2 DD.out.1 DD.out.2.1 DD.out.2.2.1 DD.out.2.2.2).mono ?_
    rintro e v2 ⟨bn2, rfl, hn1, hn2, n0, n1, n2, n3, hbv2⟩
    rw [show apL 740230 1925230 707106781 707106782 = 1087308 by decide] at n0
    rw [show apH 1087309 3110230 707106781 707106782 = 1679809 by decide] at n1
    rw [(ap_0 _ _).1] at n2
    rw [(ap_0 _ _).2] at n3
    have hx2 : BelowX bm bm w5.heap.size w5 v2 := hx1.trans (BelowX.of hbv2 hx1.size)
    have CD2 := Lib.hid (CC2.out.next (j' := 2) (s' := 600) (p0' := 4000) (p1' := 4000) hx1 hm1 hbv2 hn1 hn2 n0 n1 n2 n3 (fun b hb => by cases hb; exact ⟨bbN, hbb3, b5b, DD.out.1, DD.out.2.1, DD.out.2.2.1, DD.out.2.2.2⟩))
    have s0 := (hx2.cell (i := 0) h5l nb5 nb5).trans CC2.out.s0
    have s1 := (hx2.cell (i := 1) h5l nb5 nb5).trans CC2.out.s1
    have s2 := (hx2.cell (i := 2) h5l nb5 nb5).trans CC2.out.s2
    have s3 := (hx2.cell (i := 3) h5l nb5 nb5).trans CC2.out.s3
    have s4 := (hx2.cell (i := 4) h5l nb5 nb5).trans CC2.out.s4
    have sf : ∀ j, v2.frozen? ⟨b5, j, none⟩ = false := fun j => (hx2.frozen h5l nb5 nb5).trans (CC2.out.sf j)
    clear n0 n1 n2 n3 hn1 hn2 hbv2
    go_wp2_with fail
    refine hK.out _ _ (HT'.out _ hx2) (fun hHeld => ?_)
    clear hK K
    try simp only [Act.put, List.setIfInBounds_toArray, List.set_cons_zero, List.set_cons_succ]
    refine wpAnyZ_take (i := 13) (oi := ⟨some 48, _, _, _, _, _⟩) (v := ?_) (by kernel_rfl) (by kernel_rfl) rfl rfl (by kernel_rfl) (by kernel_rfl) (by kernel_rfl) (fun _ _ _ h => h) (Or.inl ⟨by kernel_rfl, ?_⟩) (by assumption) ?_
    rotate_left
    · (intro w hSw; (try dsimp only at hSw); go_simp; all_goals with_reducible rfl)
    try simp only [Act.put, List.setIfInBounds_toArray, List.set_cons_zero, List.set_cons_succ]
    refine wpAnyZ_last (by kernel_rfl) rfl (fun K hK => ?_)
    go_simp
    go_wp2_with fail
    refine hK.out _ _ ?_
    clear hK K
    try simp only [Act.put, List.setIfInBounds_toArray, List.set_cons_zero, List.set_cons_succ]
    obtain ⟨x2, hx29⟩ : ∃ V, set5 v2 b5 (.int .i64 2) (.int .i64 600) (.int .i64 4000) (.int .i64 4000) (.slice (some ⟨bn2, 0, none⟩) 1 1) = V := ⟨_, rfl⟩
    rw [hx29] at CD2
    unfold set5 at hx29
    rw [hx29]
    clear hx29 s0 s1 s2 s3 s4 sf hHeld hx2 hx1 hx0 HT' DD RR hm1 nb5 nb7 nb8 nq lfb l4 ltb lrb lbm h5n h5l hqn hql hN5 CC2 kfb hqv hbb3 hb8l b8N ml5 mN nbb hbb1'
    gi_wp2_with fail
    rw [roundsIn_succ]
    have ys0 := CD2.out.s0
    have ys1 := CD2.out.s1
    have ys2 := CD2.out.s2
    have ys3 := CD2.out.s3
    have ys4 := CD2.out.s4
    obtain ⟨vb3, hvb3⟩ := CD2.out.bc
    obtain ⟨fn, tmps, assign, body, hy, hR⟩ := HY.out x2 2 600 4000 4000 bn2 0 1 1 vb3 CD2.out.env.le CD2.out.env.rl CD2.out.env.rd hvb3 CD2.out.bf
    gi_wp2_with fail
    refine hR.mono ?_
    rintro e w2 hround
    have CE3 := Lib.hid (CD2.out.round hround)
    have HR3 := Lib.hid hround
    obtain rfl := hround.1
    clear hround hy hR ys0 ys1 ys2 ys3 ys4 hvb3
    gi_wp2_with fail
    go_end0
    exact ⟨⟨_, rfl⟩, bn2, HR3.out.2.1, CE3.out.bf, CE3.out.qn, CE3.out.ql, CE3.out.r0, CE3.out.r1, CE3.out.r2, CE3.out.r3, CE3.out.bx⟩
end Go.Proofs.Ytfaodlcfjhnhbaa
