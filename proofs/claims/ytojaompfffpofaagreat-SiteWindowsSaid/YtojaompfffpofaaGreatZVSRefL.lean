import Derived.Test.YtojaompfffpofaaGreatZVSRefW
import Derived.Test.YtojaompfffpofaaGreatSLat
import Derived.Test.YtojaompfffpofaaGreatSLaw0
import Derived.Outline
namespace Go.Proofs.YtojaompfffpofaaGreat
open Go.ChangeShapes Go.WideShapes Go.ChangeAt Go.RowKit
set_option linter.unusedVariables false
set_option linter.unusedSimpArgs false
attribute [local go_sem ↓] Go.wp_at_zero Go.wp_at_succ
theorem refCosw_is (h p f t x y : Int) (w : World) (hw : WvOk ⟨h, p, f⟩) (t0 : 0 ≤ t) (t1 : t ≤ 2000000) (hc : Hid (cosW ⟨h, p, f⟩ t = (x, y))) :
    Calls Tryz.prog 114 #[.agg #[.int .i64 h, .int .i64 p, .int .i64 f], .int .i64 t] w fun e w' => e = .returned (.agg #[.int .i64 x, .int .i64 y]) ∧ Below w.heap.size w w' := by
  have := refCosw_any h p f t w hw t0 t1
  rw [hc.out] at this; exact this
theorem dnO_hun (m s : Int) : dnO (m * 100000000 + s) = m + dnO s := by unfold dnO; omega
theorem upO_hun (m s : Int) : upO (m * 100000000 + s) = m + upO s := by unfold upO; omega
set_option maxRecDepth 100000 in
set_option maxHeartbeats 8000000 in
theorem refLevel_any (m : Int) (L : List Wv) (A : Option Addr) (cap n : Nat) (t : Int) (w : World) (hn : Hid (n = L.length)) (hl : n ≤ 10) (hL : ∀ x ∈ L, WvOk x) (m0 : -100000 ≤ m) (m1 : m ≤ 100000) (t0 : 0 ≤ t) (t1 : t ≤ 2000000) (HL : Hid (SlRows wvV 3 w A L)) :
    Calls Tryz.prog 74 #[.agg #[.int .i64 m, .slice A n cap], .int .i64 t] w fun e w' => e = .returned (.agg #[.int .i64 (levLo m L t), .int .i64 (levHi m L t)]) ∧ Below w.heap.size w w' := by
  obtain ⟨E0, hE0⟩ : ∃ z, Hid (levLo m L t = z) := ⟨_, Lib.hid rfl⟩
  obtain ⟨E1, hE1⟩ : ∃ z, Hid (levHi m L t = z) := ⟨_, Lib.hid rfl⟩
  rw [hE0.out, hE1.out]
  have HW := Lib.hid hL
  clear hL
  have HR : Hid (∀ w' : World, Below w.heap.size w w' → SlRows wvV 3 w' A L) := Lib.hid fun w' hB => HL.out.below hB
  obtain ⟨M, hM⟩ : ∃ z, Hid (m * 100000000 = z) := ⟨_, Lib.hid rfl⟩
  have mm : m * 100000000 = M := hM.out
  have mw : IntKind.i64.wrap (m * 100000000) = M := by rw [mm]; exact IntWalk.i64_in _ (by omega)
  have M0 : -10000000000000 ≤ M := by omega
  have M1 : M ≤ 10000000000000 := by omega
  clear mm
  go_enter Tryz.func74, Tryz.ntmps74
  go_upto_region 1 with (fail)
  refine wp_region_held_drew (S := (fun w' => w'.cell? ⟨w.heap.size, 0, none⟩ = some (.int .i64 m))) (by kernel_rfl) (by simp [go_sem, World.cell?_alloc_past, *]) (fun hHeld => ?_)
  refine tkH 0 ⟨some 9, _, _, _, _, _⟩ ?_ rfl ?_ (by assumption) ?_
  rotate_left
  · (intro w hSw; (try dsimp only at hSw); go_simp; all_goals with_reducible rfl)
  try simp only [Act.put, sA, sB, sC]
  refine tkH 1 ⟨some 10, _, _, _, _, _⟩ ?_ rfl ?_ (by assumption) ?_
  rotate_left
  · (intro w hSw; (try dsimp only at hSw); go_simp; all_goals with_reducible rfl)
  try simp only [Act.put, sA, sB, sC]
  refine tkH 2 ⟨some 11, _, _, _, _, _⟩ ?_ rfl ?_ (by assumption) ?_
  rotate_left
  · (intro w hSw; (try dsimp only at hSw); go_simp; all_goals with_reducible rfl)
  try simp only [Act.put, sA, sB, sC]
  refine tkH 3 ⟨some 12, _, _, _, _, _⟩ ?_ rfl ?_ (by assumption) ?_
  rotate_left
  · (intro w hSw; (try dsimp only at hSw); go_simp; all_goals with_reducible rfl)
  try simp only [Act.put, sA, sB, sC]
  refine tkH 4 ⟨some 13, _, _, _, _, _⟩ ?_ rfl ?_ (by assumption) ?_
  rotate_left
  · (intro w hSw; (try dsimp only at hSw); go_simp; all_goals with_reducible rfl)
  try simp only [Act.put, sA, sB, sC]
  refine tkH 5 ⟨some 14, _, _, _, _, _⟩ ?_ rfl ?_ (by assumption) ?_
  rotate_left
  · (intro w hSw; (try dsimp only at hSw); go_simp; all_goals with_reducible rfl)
  try simp only [Act.put, sA, sB, sC]
  refine tkH 6 ⟨some 5, _, _, _, _, _⟩ ?_ rfl ?_ (by assumption) ?_
  rotate_left
  · (intro w hSw; (try dsimp only at hSw); go_simp; all_goals with_reducible rfl)
  try simp only [Act.put, sA, sB, sC]
  refine tkH 7 ⟨some 6, _, _, _, _, _⟩ ?_ rfl ?_ (by assumption) ?_
  rotate_left
  · (intro w hSw; (try dsimp only at hSw); go_simp; all_goals with_reducible rfl)
  try simp only [Act.put, sA, sB, sC]
  refine wpAnyH_done (by kernel_rfl) ?_ _
  go_wp2_with fail
  go_loopw [5, 6, 7] (fun lo hi i wr => ∃ (k : Nat) (s0 s1 : Int), lo = .int .i64 (M + s0) ∧ hi = .int .i64 (M + s1) ∧ i = .int .i64 k ∧ k ≤ n ∧ Hid (sumLo (L.take k) t = s0) ∧ Hid (sumHi (L.take k) t = s1) ∧ wr.cell? ⟨w.heap.size, 0, none⟩ = some (.int .i64 m) ∧ wr.cell? ⟨w.heap.size, 1, none⟩ = some (.slice A n cap) ∧ wr.cell? ⟨w.heap.size + 1, 0, none⟩ = some (.int .i64 0) ∧ wr.cell? ⟨w.heap.size + 1, 1, none⟩ = some (.int .i64 0) ∧ (∀ j, wr.frozen? ⟨w.heap.size + 1, j, none⟩ = false) ∧ w.heap.size + 2 ≤ wr.heap.size ∧ Below w.heap.size w wr) (fun _ _ i _ => n - (intOf i).toNat)
  case atStart => exact ⟨0, 0, 0, by simp, by simp, rfl, by omega, Lib.hid rfl, Lib.hid rfl, by simp [go_sem, World.cell?_alloc_past], by simp [go_sem, World.cell?_alloc_past], by simp [go_sem], by simp [go_sem], by intro j; simp [go_sem], by simp, (by (repeat (first | (with_reducible refine Below.drew ?_) | (with_reducible refine below_drewN ?_ _) | (with_reducible refine Below.alloc ?_ (by first | omega | (simp; done) | (simp; omega) | (simp at *; omega)) _) | (with_reducible refine Below.setCell ?_ (by first | omega | (simp; done) | (simp; omega) | (simp at *; omega)) _) | (with_reducible exact Below.refl _ _) | (with_reducible assumption) | (with_reducible refine Below.trans ?_ (Below.mono (by assumption) (by first | omega | (simp; done) | (simp; omega) | (simp at *; omega)))))))⟩
  case round =>
    obtain ⟨k, s0, s1, rfl, rfl, rfl, hk, hs0, hs1, c0, c1, r0, r1, fr, sz, hB⟩ := hrel
    have n1 : w.heap.size + 1 < wr.heap.size := by omega
    have n2 : w.heap.size < wr.heap.size := by omega
    have n3 : wr.heap.size ≠ w.heap.size + 1 := by omega
    have n4 : wr.heap.size ≠ w.heap.size := by omega
    have n6 : w.heap.size + 1 ≠ wr.heap.size := by omega
    have n7 : w.heap.size ≠ wr.heap.size := by omega
    have bd := sum_bd (L := L.take k) (fun x hx => HW.out x (List.mem_of_mem_take hx)) t
    rw [hs0.out, hs1.out] at bd
    obtain ⟨d1, d2, d3⟩ := bd
    have hlen : ((L.take k).length : Int) ≤ 10 := by rw [List.length_take]; omega
    have d4 : -100000000000000 ≤ s0 := by omega
    have d5 : s1 ≤ 100000000000000 := by omega
    clear d1 d3 hlen
    by_cases hkn : k < n
    · have hkl : k < L.length := by have := hn.out; omega
      have kn : (k : Int) < (n : Int) := by omega
      rcases HR.out _ hB with h0 | ⟨b, off, rfl, hlt, hR⟩
      · rw [h0] at hkl; simp at hkl
      obtain ⟨e0, e1, e2⟩ := wv_at hR hkl
      have hok := HW.out _ (List.getElem_mem hkl)
      obtain ⟨u1, u2⟩ := take_sum hkl t
      obtain ⟨⟨h, p, f⟩, hq⟩ : ∃ x, Hid (L[k] = x) := ⟨L[k], Lib.hid rfl⟩
      rw [hq.out] at e0 e1 e2 hok u1 u2
      dsimp only at e0 e1 e2 u1 u2
      obtain ⟨⟨a, c⟩, hac⟩ : ∃ q, Hid (cosW ⟨h, p, f⟩ t = q) := ⟨_, Lib.hid rfl⟩
      have cb := cosW_bd ⟨h, p, f⟩ t
      rw [hac.out, hs0.out] at u1
      rw [hac.out, hs1.out] at u2
      rw [hac.out] at cb
      dsimp only at u1 u2 cb
      obtain ⟨cb1, cb2, cb3⟩ := cb
      have q1 := hmul_bd hok.h0 hok.h1 cb1 (by omega)
      have q2 := hmul_bd hok.h0 hok.h1 (by omega : -100000000 ≤ c) cb3
      dsimp only at q1 q2
      obtain ⟨g1, hg1⟩ : ∃ z, Hid (h * a = z) := ⟨_, Lib.hid rfl⟩
      obtain ⟨g2, hg2⟩ : ∃ z, Hid (h * c = z) := ⟨_, Lib.hid rfl⟩
      rw [hg1.out] at q1 u1
      rw [hg2.out] at q2 u2
      obtain ⟨q11, q12⟩ := q1
      obtain ⟨q21, q22⟩ := q2
      have w1 : IntKind.i64.wrap (h * a) = g1 := by rw [hg1.out]; exact IntWalk.i64_in _ (by omega)
      have w2 : IntKind.i64.wrap (h * c) = g2 := by rw [hg2.out]; exact IntWalk.i64_in _ (by omega)
      have w1' : wrap64 (h * a) = g1 := (IntWalk.i64_left _).symm.trans w1
      have w2' : wrap64 (h * c) = g2 := (IntWalk.i64_left _).symm.trans w2
      have w3 : IntKind.i64.wrap (M + s0 + g1) = M + s0 + g1 := IntWalk.i64_in _ (by omega)
      have w4 : IntKind.i64.wrap (M + s1 + g2) = M + s1 + g2 := IntWalk.i64_in _ (by omega)
      have U1 := Lib.hid u1
      have U2 := Lib.hid u2
      clear u1 u2 hs0 hs1 cb1 cb2 cb3 hg1 hg2 hR
      go_wp2_with fail
      refine (refCosw_is h p f t a c _ hok t0 t1 hac).mono ?_
      rintro e xw1 ⟨rfl, hbx1⟩
      have zx1 := hbx1.size
      try simp at zx1
      obtain ⟨x1_0_0, x1_0_1, x1_1_0, x1_1_1, x1_2_0, x1_2_1, x1_2_2⟩ : xw1.cell? ⟨w.heap.size, 0, none⟩ = some (.int .i64 m) ∧ xw1.cell? ⟨w.heap.size, 1, none⟩ = some (.slice (some ⟨b, off, none⟩) n cap) ∧ xw1.cell? ⟨w.heap.size + 1, 0, none⟩ = some (.int .i64 0) ∧ xw1.cell? ⟨w.heap.size + 1, 1, none⟩ = some (.int .i64 0) ∧ xw1.cell? ⟨b, off + k * 3, none⟩ = some (.int .i64 h) ∧ xw1.cell? ⟨b, off + k * 3 + 1, none⟩ = some (.int .i64 p) ∧ xw1.cell? ⟨b, off + k * 3 + 2, none⟩ = some (.int .i64 f) := by refine ⟨?_, ?_, ?_, ?_, ?_, ?_, ?_⟩ <;> (rw [(bcell hbx1).1 _ _ (by first | (simp; done) | (simp; omega) | omega)]; simp [go_sem, World.cell?_alloc_past, *])
      have x1f1 : (∀ j, xw1.frozen? ⟨w.heap.size + 1, j, none⟩ = false) := by (intro j; rw [(bcell hbx1).2 _ _ (by first | (simp; done) | (simp; omega) | omega)]; simp [go_sem, *])
      obtain ⟨x1o0, x1n0, x1m0, x1t0_0, x1o1, x1n1, x1m1, x1t1_0, x1o2, x1n2, x1m2, x1t2_0⟩ : w.heap.size < xw1.heap.size ∧ xw1.heap.size ≠ w.heap.size ∧ w.heap.size ≠ xw1.heap.size ∧ w.heap.size < xw1.heap.size + 1 ∧ w.heap.size + 1 < xw1.heap.size ∧ xw1.heap.size ≠ w.heap.size + 1 ∧ w.heap.size + 1 ≠ xw1.heap.size ∧ w.heap.size + 1 < xw1.heap.size + 1 ∧ b < xw1.heap.size ∧ xw1.heap.size ≠ b ∧ b ≠ xw1.heap.size ∧ b < xw1.heap.size + 1 := by refine ⟨?_, ?_, ?_, ?_, ?_, ?_, ?_, ?_, ?_, ?_, ?_, ?_⟩ <;> omega
      have hBx1 : Below w.heap.size w xw1 := (by (repeat (first | (with_reducible refine Below.drew ?_) | (with_reducible refine below_drewN ?_ _) | (with_reducible refine Below.alloc ?_ (by first | omega | (simp; done) | (simp; omega) | (simp at *; omega)) _) | (with_reducible refine Below.setCell ?_ (by first | omega | (simp; done) | (simp; omega) | (simp at *; omega)) _) | (with_reducible exact Below.refl _ _) | (with_reducible assumption) | (with_reducible refine Below.trans ?_ (Below.mono (by assumption) (by first | omega | (simp; done) | (simp; omega) | (simp at *; omega)))))))
      clear hbx1 
      go_upto_region 6 with (fail)
      refine wp_region_held_drew (S := (fun w' => w'.cell? ⟨w.heap.size, 1, none⟩ = some (.slice (some ⟨b, off, none⟩) n cap) ∧ w'.cell? ⟨b, off + k * 3, none⟩ = some (.int .i64 h) ∧ w'.cell? ⟨xw1.heap.size, 0, none⟩ = some (.int .i64 a) ∧ w'.cell? ⟨xw1.heap.size, 1, none⟩ = some (.int .i64 c))) (by kernel_rfl) (by simp [go_sem, World.cell?_alloc_past, *]) (fun hHeld => ?_)
      refine tkH 0 ⟨some 29, _, _, _, _, _⟩ ?_ rfl ?_ (by assumption) ?_
      rotate_left
      · (intro w hSw; (try dsimp only at hSw); go_simp; all_goals with_reducible rfl)
      try simp only [Act.put, sA, sB, sC]
      refine tkH 1 ⟨some 30, _, _, _, _, _⟩ ?_ rfl ?_ (by assumption) ?_
      rotate_left
      · (intro w hSw; (try dsimp only at hSw); go_simp; all_goals with_reducible rfl)
      try simp only [Act.put, sA, sB, sC]
      refine tkH 2 ⟨some 31, _, _, _, _, _⟩ ?_ rfl ?_ (by assumption) ?_
      rotate_left
      · (intro w hSw; (try dsimp only at hSw); go_simp; all_goals with_reducible rfl)
      try simp only [Act.put, sA, sB, sC]
      refine tkH 3 ⟨some 32, _, _, _, _, _⟩ ?_ rfl ?_ (by assumption) ?_
      rotate_left
      · (intro w hSw; (try dsimp only at hSw); go_simp; all_goals with_reducible rfl)
      try simp only [Act.put, sA, sB, sC]
      refine tkH 4 ⟨some 33, _, _, _, _, _⟩ ?_ rfl ?_ (by assumption) ?_
      rotate_left
      · (intro w hSw; (try dsimp only at hSw); go_simp; all_goals with_reducible rfl)
      try simp only [Act.put, sA, sB, sC]
      refine tkH 5 ⟨some 34, _, _, _, _, _⟩ ?_ rfl ?_ (by assumption) ?_
      rotate_left
      · (intro w hSw; (try dsimp only at hSw); go_simp; all_goals with_reducible rfl)
      try simp only [Act.put, sA, sB, sC]
      refine tkH 6 ⟨some 35, _, _, _, _, _⟩ ?_ rfl ?_ (by assumption) ?_
      rotate_left
      · (intro w hSw; (try dsimp only at hSw); go_simp; all_goals with_reducible rfl)
      try simp only [Act.put, sA, sB, sC]
      refine tkH 7 ⟨some 36, _, _, _, _, _⟩ ?_ rfl ?_ (by assumption) ?_
      rotate_left
      · (intro w hSw; (try dsimp only at hSw); go_simp; all_goals with_reducible rfl)
      try simp only [Act.put, sA, sB, sC]
      refine tkH 8 ⟨some 37, _, _, _, _, _⟩ ?_ rfl ?_ (by assumption) ?_
      rotate_left
      · (intro w hSw; (try dsimp only at hSw); go_simp; all_goals with_reducible rfl)
      try simp only [Act.put, sA, sB, sC]
      refine tkH 9 ⟨some 38, _, _, _, _, _⟩ ?_ rfl ?_ (by assumption) ?_
      rotate_left
      · (intro w hSw; (try dsimp only at hSw); go_simp; all_goals with_reducible rfl)
      try simp only [Act.put, sA, sB, sC]
      refine tkH 10 ⟨some 39, _, _, _, _, _⟩ ?_ rfl ?_ (by assumption) ?_
      rotate_left
      · (intro w hSw; (try dsimp only at hSw); go_simp; all_goals with_reducible rfl)
      try simp only [Act.put, sA, sB, sC]
      refine tkH 11 ⟨some 40, _, _, _, _, _⟩ ?_ rfl ?_ (by assumption) ?_
      rotate_left
      · (intro w hSw; (try dsimp only at hSw); go_simp; all_goals with_reducible rfl)
      try simp only [Act.put, sA, sB, sC]
      refine tkH 12 ⟨some 41, _, _, _, _, _⟩ ?_ rfl ?_ (by assumption) ?_
      rotate_left
      · (intro w hSw; (try dsimp only at hSw); go_simp; all_goals with_reducible rfl)
      try simp only [Act.put, sA, sB, sC]
      refine tkH 13 ⟨some 42, _, _, _, _, _⟩ ?_ rfl ?_ (by assumption) ?_
      rotate_left
      · (intro w hSw; (try dsimp only at hSw); go_simp; all_goals with_reducible rfl)
      try simp only [Act.put, sA, sB, sC]
      refine tkH 14 ⟨some 43, _, _, _, _, _⟩ ?_ rfl ?_ (by assumption) ?_
      rotate_left
      · (intro w hSw; (try dsimp only at hSw); go_simp; all_goals with_reducible rfl)
      try simp only [Act.put, sA, sB, sC]
      refine tkH 15 ⟨some 44, _, _, _, _, _⟩ ?_ rfl ?_ (by assumption) ?_
      rotate_left
      · (intro w hSw; (try dsimp only at hSw); go_simp; all_goals with_reducible rfl)
      try simp only [Act.put, sA, sB, sC]
      refine tkH 16 ⟨some 45, _, _, _, _, _⟩ ?_ rfl ?_ (by assumption) ?_
      rotate_left
      · (intro w hSw; (try dsimp only at hSw); go_simp; all_goals with_reducible rfl)
      try simp only [Act.put, sA, sB, sC]
      refine tkH 17 ⟨some 46, _, _, _, _, _⟩ ?_ rfl ?_ (by assumption) ?_
      rotate_left
      · (intro w hSw; (try dsimp only at hSw); go_simp; all_goals with_reducible rfl)
      try simp only [Act.put, sA, sB, sC]
      refine tkH 18 ⟨some 47, _, _, _, _, _⟩ ?_ rfl ?_ (by assumption) ?_
      rotate_left
      · (intro w hSw; (try dsimp only at hSw); go_simp; all_goals with_reducible rfl)
      try simp only [Act.put, sA, sB, sC]
      refine tkH 19 ⟨some 48, _, _, _, _, _⟩ ?_ rfl ?_ (by assumption) ?_
      rotate_left
      · (intro w hSw; (try dsimp only at hSw); go_simp; all_goals with_reducible rfl)
      try simp only [Act.put, sA, sB, sC]
      refine tkH 20 ⟨some 49, _, _, _, _, _⟩ ?_ rfl ?_ (by assumption) ?_
      rotate_left
      · (intro w hSw; (try dsimp only at hSw); go_simp; all_goals with_reducible rfl)
      try simp only [Act.put, sA, sB, sC]
      refine tkH 21 ⟨some 50, _, _, _, _, _⟩ ?_ rfl ?_ (by assumption) ?_
      rotate_left
      · (intro w hSw; (try dsimp only at hSw); go_simp; all_goals with_reducible rfl)
      try simp only [Act.put, sA, sB, sC]
      refine tkH 22 ⟨some 5, _, _, _, _, _⟩ ?_ rfl ?_ (by assumption) ?_
      rotate_left
      · (intro w hSw; (try dsimp only at hSw); go_simp; all_goals with_reducible rfl)
      try simp only [Act.put, sA, sB, sC]
      refine tkH 23 ⟨some 6, _, _, _, _, _⟩ ?_ rfl ?_ (by assumption) ?_
      rotate_left
      · (intro w hSw; (try dsimp only at hSw); go_simp; all_goals with_reducible rfl)
      try simp only [Act.put, sA, sB, sC]
      refine wpAnyH_done (by kernel_rfl) ?_ _
      go_wp2
      go_roundw
      case rel => exact ⟨k + 1, s0 + g1, s1 + g2, by go_num, by go_num, by go_num, by omega, U1, U2, by simp [go_sem, World.cell?_alloc_past, *], by simp [go_sem, World.cell?_alloc_past, *], by simp [go_sem, World.cell?_alloc_past, *], by simp [go_sem, World.cell?_alloc_past, *], by intro j; simp [go_sem, *], by simp; omega, (by (repeat (first | (with_reducible refine Below.drew ?_) | (with_reducible refine below_drewN ?_ _) | (with_reducible refine Below.alloc ?_ (by first | omega | (simp; done) | (simp; omega) | (simp at *; omega)) _) | (with_reducible refine Below.setCell ?_ (by first | omega | (simp; done) | (simp; omega) | (simp at *; omega)) _) | (with_reducible exact Below.refl _ _) | (with_reducible assumption) | (with_reducible refine Below.trans ?_ (Below.mono (by assumption) (by first | omega | (simp; done) | (simp; omega) | (simp at *; omega)))))))⟩
      case measure => (simp [intOf]) <;> omega
    · have hkk : k = n := by omega
      subst hkk
      have hs2 := hs0.out
      have hs3 := hs1.out
      rw [hn.out, List.take_length] at hs2 hs3
      have R0 : Hid (dnO (M + s0) = E0) := Lib.hid (by rw [← hM.out, dnO_hun, ← hE0.out]; unfold levLo; rw [hs2])
      have R1 : Hid (upO (M + s1) = E1) := Lib.hid (by rw [← hM.out, upO_hun, ← hE1.out]; unfold levHi; rw [hs3])
      clear hs0 hs1 hs2 hs3 hE0 hE1
      go_wp2_with (first
        | (go_at_call 115; ((with_reducible refine (bFl_is (M + s0) E0 _ (by omega) (by omega) R0).mono ?_)); rintro e w' ⟨rfl, rfl⟩)
        | (go_at_call 116; ((with_reducible refine (bCe_is (M + s1) E1 _ (by omega) (by omega) R1).mono ?_)); rintro e w' ⟨rfl, rfl⟩))
      refine bodyPost_ret (v := .agg #[.int .i64 E0, .int .i64 E1]) (by simp [results, Tryz.results74, go_sem, *]) rfl ⟨rfl, ?_⟩
      (repeat (first | (with_reducible refine Below.drew ?_) | (with_reducible refine below_drewN ?_ _) | (with_reducible refine Below.alloc ?_ (by first | omega | (simp; done) | (simp; omega) | (simp at *; omega)) _) | (with_reducible refine Below.setCell ?_ (by first | omega | (simp; done) | (simp; omega) | (simp at *; omega)) _) | (with_reducible exact Below.refl _ _) | (with_reducible assumption) | (with_reducible refine Below.trans ?_ (Below.mono (by assumption) (by first | omega | (simp; done) | (simp; omega) | (simp at *; omega))))))
end Go.Proofs.YtojaompfffpofaaGreat
