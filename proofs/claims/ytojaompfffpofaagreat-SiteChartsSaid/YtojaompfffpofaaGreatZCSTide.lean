import Derived.Test.YtojaompfffpofaaGreatZCSAng
import Derived.Outline
namespace Go.Proofs.YtojaompfffpofaaGreat
open Go.ChangeShapes Go.WideShapes Go.ChangeAt Go.RowKit
set_option linter.unusedVariables false
set_option linter.unusedSimpArgs false
attribute [local go_sem ↓] Go.wp_at_zero Go.wp_at_succ
set_option maxRecDepth 100000 in
set_option maxHeartbeats 2000000 in
theorem angleAt_any (h p f t : Int) (w : World) (hw : WvOk ⟨h, p, f⟩) (t0 : 0 ≤ t) (t1 : t ≤ 2000000) :
    Calls Tryz.prog 141 #[.agg #[.int .i64 h, .int .i64 p, .int .i64 f], .int .i64 t] w fun e w' => e = .returned (.agg #[.int .i64 (angLo ⟨h, p, f⟩ t), .int .i64 (angHi ⟨h, p, f⟩ t)]) ∧ Below w.heap.size w w' := by
  obtain ⟨l0, l1⟩ := angLo_bd hw t0
  obtain ⟨u0, u1⟩ := angHi_bd hw t0
  obtain ⟨a0, a1⟩ := ang_bd hw t0
  obtain ⟨h0, h1, p0, p1, f0, f1⟩ := hw
  dsimp only at h0 h1 p0 p1 f0 f1 a1
  obtain ⟨lo, hlo⟩ : ∃ z, Hid (angLo ⟨h, p, f⟩ t = z) := ⟨_, Lib.hid rfl⟩
  obtain ⟨hi, hhi⟩ : ∃ z, Hid (angHi ⟨h, p, f⟩ t = z) := ⟨_, Lib.hid rfl⟩
  obtain ⟨N, hN⟩ : ∃ z, Hid (angI ⟨h, p, f⟩ t = z) := ⟨_, Lib.hid rfl⟩
  obtain ⟨m, hm⟩ : ∃ z, Hid (f * p = z) := ⟨_, Lib.hid rfl⟩
  rw [hlo.out] at l0 l1 ⊢
  rw [hhi.out] at u0 u1 ⊢
  rw [hN.out] at a0 a1
  have m0 : 0 ≤ m := by rw [← hm.out]; exact Int.mul_nonneg f0 (by omega)
  have m1 : m ≤ 4095 * 100000 := by rw [← hm.out]; exact Int.mul_le_mul f1 p1 (by omega) (by omega)
  have w1 : IntKind.i64.wrap (f * p) = m := by rw [hm.out]; exact IntWalk.i64_in _ (by omega)
  have w2 : IntKind.i64.wrap (4096 * t) = 4096 * t := IntWalk.i64_in _ (by omega)
  have w3 : IntKind.i64.wrap (m + 4096 * t) = m + 4096 * t := IntWalk.i64_in _ (by omega)
  have w4 : IntKind.i64.wrap (4096 * p) = 4096 * p := IntWalk.i64_in _ (by omega)
  have d1 : (m + 4096 * t) % (4096 * p) = N := by rw [← hN.out, ← hm.out]; rfl
  have d2 : (m + 4096 * t).tmod (4096 * p) = N := by rw [Int.tmod_eq_emod_of_nonneg (by omega)]; exact d1
  have w5 : IntKind.i64.wrap N = N := IntWalk.i64_in _ (by omega)
  have d3 : N / p = lo := by rw [← hN.out, ← hlo.out]; rfl
  have d4 : N.tdiv p = lo := by rw [Int.tdiv_eq_ediv_of_nonneg (by omega)]; exact d3
  have w6 : IntKind.i64.wrap lo = lo := IntWalk.i64_in _ (by omega)
  have w7 : IntKind.i64.wrap (N + p) = N + p := IntWalk.i64_in _ (by omega)
  have w8 : IntKind.i64.wrap (N + p - 1) = N + p - 1 := IntWalk.i64_in _ (by omega)
  have d5 : (N + p - 1) / p = hi := by rw [← hN.out, ← hhi.out]; rfl
  have d6 : (N + p - 1).tdiv p = hi := by rw [Int.tdiv_eq_ediv_of_nonneg (by omega)]; exact d5
  have w9 : IntKind.i64.wrap hi = hi := IntWalk.i64_in _ (by omega)
  have q1 : ¬ p = 0 := by omega
  have q2 : ¬ 4096 * p = 0 := by omega
  have q3 : 0 ≤ N + p - 1 := by omega
  have q4 : 0 ≤ m + 4096 * t := by omega
  have q5 : 0 < p := by omega
  clear hlo hhi hN hm
  go_enter Tryz.func141, Tryz.ntmps141
  go_upto_region 2 with (fail)
  go_region
  all_goals
    go_wp2
    refine bodyPost_ret (v := .agg #[.int .i64 lo, .int .i64 hi]) (by simp [results, Tryz.results141, go_sem, *]) rfl ⟨rfl, ?_⟩
    (repeat (first | (with_reducible refine Below.drew ?_) | (with_reducible refine below_drewN ?_ _) | (with_reducible refine Below.alloc ?_ (by first | omega | (simp; done) | (simp; omega) | (simp at *; omega)) _) | (with_reducible refine Below.setCell ?_ (by first | omega | (simp; done) | (simp; omega) | (simp at *; omega)) _) | (with_reducible exact Below.refl _ _) | (with_reducible assumption) | (with_reducible refine Below.trans ?_ (Below.mono (by assumption) (by first | omega | (simp; done) | (simp; omega) | (simp at *; omega))))))
theorem at_is (b off m : Nat) (n : Int) (p : Pt) (w : World) (hn : n = (m : Int)) (hm : m < 1024) (hb : b < w.heap.size) (H : Hid (HvA w b off)) (hp : Hid (atP m 11 = p)) :
    Calls Tryz.prog 157 #[.pointer (some ⟨b, off, none⟩), .int .i64 n] w fun e w' => e = .returned (.agg #[.int .i64 p.a, .int .i64 p.b, .int .i64 p.c, .int .i64 p.d]) ∧ Below w.heap.size w w' := by
  subst hn; rw [← hp.out]; exact at_any b off m w hm hb H
set_option maxRecDepth 100000 in
set_option maxHeartbeats 2000000 in
theorem cosine_any (b off n : Nat) (w : World) (hn : n ≤ 4096) (hb : b < w.heap.size) (H : Hid (HvA w b off)) :
    Calls Tryz.prog 142 #[.pointer (some ⟨b, off, none⟩), .int .i64 n] w fun e w' => e = .returned (.agg #[.int .i64 (cosP n).1, .int .i64 (cosP n).2]) ∧ Below w.heap.size w w' := by
  obtain ⟨m, hm⟩ : ∃ m, Hid (n % 1024 = m) := ⟨_, Lib.hid rfl⟩
  have hm1 : m < 1024 := by rw [← hm.out]; omega
  obtain ⟨⟨pa, pb, pc, pd⟩, hp⟩ : ∃ q, Hid (atP m 11 = q) := ⟨_, Lib.hid rfl⟩
  have kp : PtOk ⟨pa, pb, pc, pd⟩ := by rw [← hp.out]; exact atP_ok hm1 (by omega)
  obtain ⟨k1, k2, k3, k4, k5, k6⟩ := kp
  dsimp only at k1 k2 k3 k4 k5 k6
  have d1 : (n : Int) % 1024 = m := by rw [← hm.out]; omega
  have d2 : (n : Int).tmod 1024 = m := by rw [Int.tmod_eq_emod_of_nonneg (by omega)]; exact d1
  have w1 : IntKind.i64.wrap (m : Int) = m := IntWalk.i64_in _ (by omega)
  have HA : Hid (∀ w' : World, Below w.heap.size w w' → HvA w' b off) := Lib.hid fun w' hB => H.out.below hB hb
  have hq : n / 1024 = 0 ∨ n / 1024 = 1 ∨ n / 1024 = 2 ∨ n / 1024 = 3 ∨ n / 1024 = 4 := by omega
  rcases hq with hq | hq | hq | hq | hq
  · have hc : cosP n = (pa, pb) := by unfold cosP; rw [hq, hm.out, hp.out]; simp
    have d3 : (n : Int) / 1024 = 0 := by omega
    have d4 : (n : Int).tdiv 1024 = 0 := by rw [Int.tdiv_eq_ediv_of_nonneg (by omega)]; exact d3
    rw [hc]
    dsimp only
    clear hc hq d2 d4
    go_enter Tryz.func142, Tryz.ntmps142
    go_wp2_with fail
    refine (at_is b off m _ ⟨pa, pb, pc, pd⟩ _ rfl hm1 (by simp; omega) (Lib.hid (HA.out _ (by (repeat (first | (with_reducible refine Below.drew ?_) | (with_reducible refine below_drewN ?_ _) | (with_reducible refine Below.alloc ?_ (by first | omega | (simp; done) | (simp; omega) | (simp at *; omega)) _) | (with_reducible refine Below.setCell ?_ (by first | omega | (simp; done) | (simp; omega) | (simp at *; omega)) _) | (with_reducible exact Below.refl _ _) | (with_reducible assumption) | (with_reducible refine Below.trans ?_ (Below.mono (by assumption) (by first | omega | (simp; done) | (simp; omega) | (simp at *; omega))))))))) hp).mono ?_
    rintro e w1 ⟨rfl, hb1⟩
    have z1 := hb1.size
    try simp at z1
    have c1_0 : w1.cell? ⟨w.heap.size, 0, none⟩ = some (.int .i64 0) := by rw [(bcell hb1).1 _ _ (by first | (simp; done) | (simp; omega) | omega)]; simp [go_sem, World.cell?_alloc_past, *]
    have c1_1 : w1.cell? ⟨w.heap.size, 1, none⟩ = some (.int .i64 0) := by rw [(bcell hb1).1 _ _ (by first | (simp; done) | (simp; omega) | omega)]; simp [go_sem, World.cell?_alloc_past, *]
    have f1 : ∀ j, w1.frozen? ⟨w.heap.size, j, none⟩ = false := fun j => by rw [(bcell hb1).2 _ _ (by first | (simp; done) | (simp; omega) | omega)]; simp [go_sem, *]
    have o1_0 : w.heap.size < w1.heap.size := by omega
    have o1_1 : w1.heap.size ≠ w.heap.size := by omega
    have o1_2 : w.heap.size ≠ w1.heap.size := by omega
    have o1_3 : w.heap.size < w1.heap.size + 1 := by omega
    have hB1 : Below w.heap.size w w1 := (by (repeat (first | (with_reducible refine Below.drew ?_) | (with_reducible refine below_drewN ?_ _) | (with_reducible refine Below.alloc ?_ (by first | omega | (simp; done) | (simp; omega) | (simp at *; omega)) _) | (with_reducible refine Below.setCell ?_ (by first | omega | (simp; done) | (simp; omega) | (simp at *; omega)) _) | (with_reducible exact Below.refl _ _) | (with_reducible assumption) | (with_reducible refine Below.trans ?_ (Below.mono (by assumption) (by first | omega | (simp; done) | (simp; omega) | (simp at *; omega)))))))
    clear hb1
    go_wp2
    refine bodyPost_ret (v := .agg #[.int .i64 (pa), .int .i64 (pb)]) (by simp [results, Tryz.results142, go_sem, *]) rfl ⟨rfl, ?_⟩
    (repeat (first | (with_reducible refine Below.drew ?_) | (with_reducible refine below_drewN ?_ _) | (with_reducible refine Below.alloc ?_ (by first | omega | (simp; done) | (simp; omega) | (simp at *; omega)) _) | (with_reducible refine Below.setCell ?_ (by first | omega | (simp; done) | (simp; omega) | (simp at *; omega)) _) | (with_reducible exact Below.refl _ _) | (with_reducible assumption) | (with_reducible refine Below.trans ?_ (Below.mono (by assumption) (by first | omega | (simp; done) | (simp; omega) | (simp at *; omega))))))
  · have hc : cosP n = (-pd, -pc) := by unfold cosP; rw [hq, hm.out, hp.out]; simp
    have d3 : (n : Int) / 1024 = 1 := by omega
    have d4 : (n : Int).tdiv 1024 = 1 := by rw [Int.tdiv_eq_ediv_of_nonneg (by omega)]; exact d3
    rw [hc]
    dsimp only
    clear hc hq d2 d4
    go_enter Tryz.func142, Tryz.ntmps142
    go_wp2_with fail
    refine (at_is b off m _ ⟨pa, pb, pc, pd⟩ _ rfl hm1 (by simp; omega) (Lib.hid (HA.out _ (by (repeat (first | (with_reducible refine Below.drew ?_) | (with_reducible refine below_drewN ?_ _) | (with_reducible refine Below.alloc ?_ (by first | omega | (simp; done) | (simp; omega) | (simp at *; omega)) _) | (with_reducible refine Below.setCell ?_ (by first | omega | (simp; done) | (simp; omega) | (simp at *; omega)) _) | (with_reducible exact Below.refl _ _) | (with_reducible assumption) | (with_reducible refine Below.trans ?_ (Below.mono (by assumption) (by first | omega | (simp; done) | (simp; omega) | (simp at *; omega))))))))) hp).mono ?_
    rintro e w1 ⟨rfl, hb1⟩
    have z1 := hb1.size
    try simp at z1
    have c1_0 : w1.cell? ⟨w.heap.size, 0, none⟩ = some (.int .i64 0) := by rw [(bcell hb1).1 _ _ (by first | (simp; done) | (simp; omega) | omega)]; simp [go_sem, World.cell?_alloc_past, *]
    have c1_1 : w1.cell? ⟨w.heap.size, 1, none⟩ = some (.int .i64 0) := by rw [(bcell hb1).1 _ _ (by first | (simp; done) | (simp; omega) | omega)]; simp [go_sem, World.cell?_alloc_past, *]
    have f1 : ∀ j, w1.frozen? ⟨w.heap.size, j, none⟩ = false := fun j => by rw [(bcell hb1).2 _ _ (by first | (simp; done) | (simp; omega) | omega)]; simp [go_sem, *]
    have o1_0 : w.heap.size < w1.heap.size := by omega
    have o1_1 : w1.heap.size ≠ w.heap.size := by omega
    have o1_2 : w.heap.size ≠ w1.heap.size := by omega
    have o1_3 : w.heap.size < w1.heap.size + 1 := by omega
    have hB1 : Below w.heap.size w w1 := (by (repeat (first | (with_reducible refine Below.drew ?_) | (with_reducible refine below_drewN ?_ _) | (with_reducible refine Below.alloc ?_ (by first | omega | (simp; done) | (simp; omega) | (simp at *; omega)) _) | (with_reducible refine Below.setCell ?_ (by first | omega | (simp; done) | (simp; omega) | (simp at *; omega)) _) | (with_reducible exact Below.refl _ _) | (with_reducible assumption) | (with_reducible refine Below.trans ?_ (Below.mono (by assumption) (by first | omega | (simp; done) | (simp; omega) | (simp at *; omega)))))))
    clear hb1
    go_wp2_with fail
    refine (negative_any pc pd _ (by omega) (by omega) (by omega) (by omega)).mono ?_
    rintro e w2 ⟨rfl, hb2⟩
    have z2 := hb2.size
    try simp at z2
    have c2_0 : w2.cell? ⟨w.heap.size, 0, none⟩ = some (.int .i64 0) := by rw [(bcell hb2).1 _ _ (by first | (simp; done) | (simp; omega) | omega)]; simp [go_sem, World.cell?_alloc_past, *]
    have c2_1 : w2.cell? ⟨w.heap.size, 1, none⟩ = some (.int .i64 0) := by rw [(bcell hb2).1 _ _ (by first | (simp; done) | (simp; omega) | omega)]; simp [go_sem, World.cell?_alloc_past, *]
    have f2 : ∀ j, w2.frozen? ⟨w.heap.size, j, none⟩ = false := fun j => by rw [(bcell hb2).2 _ _ (by first | (simp; done) | (simp; omega) | omega)]; simp [go_sem, *]
    have o2_0 : w.heap.size < w2.heap.size := by omega
    have o2_1 : w2.heap.size ≠ w.heap.size := by omega
    have o2_2 : w.heap.size ≠ w2.heap.size := by omega
    have o2_3 : w.heap.size < w2.heap.size + 1 := by omega
    have hB2 : Below w.heap.size w w2 := (by (repeat (first | (with_reducible refine Below.drew ?_) | (with_reducible refine below_drewN ?_ _) | (with_reducible refine Below.alloc ?_ (by first | omega | (simp; done) | (simp; omega) | (simp at *; omega)) _) | (with_reducible refine Below.setCell ?_ (by first | omega | (simp; done) | (simp; omega) | (simp at *; omega)) _) | (with_reducible exact Below.refl _ _) | (with_reducible assumption) | (with_reducible refine Below.trans ?_ (Below.mono (by assumption) (by first | omega | (simp; done) | (simp; omega) | (simp at *; omega)))))))
    clear hb2
    clear hB1 o1_0 o1_1 o1_2 o1_3 c1_0 c1_1 f1
    go_wp2
    refine bodyPost_ret (v := .agg #[.int .i64 (-pd), .int .i64 (-pc)]) (by simp [results, Tryz.results142, go_sem, *]) rfl ⟨rfl, ?_⟩
    (repeat (first | (with_reducible refine Below.drew ?_) | (with_reducible refine below_drewN ?_ _) | (with_reducible refine Below.alloc ?_ (by first | omega | (simp; done) | (simp; omega) | (simp at *; omega)) _) | (with_reducible refine Below.setCell ?_ (by first | omega | (simp; done) | (simp; omega) | (simp at *; omega)) _) | (with_reducible exact Below.refl _ _) | (with_reducible assumption) | (with_reducible refine Below.trans ?_ (Below.mono (by assumption) (by first | omega | (simp; done) | (simp; omega) | (simp at *; omega))))))
  · have hc : cosP n = (-pb, -pa) := by unfold cosP; rw [hq, hm.out, hp.out]; simp
    have d3 : (n : Int) / 1024 = 2 := by omega
    have d4 : (n : Int).tdiv 1024 = 2 := by rw [Int.tdiv_eq_ediv_of_nonneg (by omega)]; exact d3
    rw [hc]
    dsimp only
    clear hc hq d2 d4
    go_enter Tryz.func142, Tryz.ntmps142
    go_wp2_with fail
    refine (at_is b off m _ ⟨pa, pb, pc, pd⟩ _ rfl hm1 (by simp; omega) (Lib.hid (HA.out _ (by (repeat (first | (with_reducible refine Below.drew ?_) | (with_reducible refine below_drewN ?_ _) | (with_reducible refine Below.alloc ?_ (by first | omega | (simp; done) | (simp; omega) | (simp at *; omega)) _) | (with_reducible refine Below.setCell ?_ (by first | omega | (simp; done) | (simp; omega) | (simp at *; omega)) _) | (with_reducible exact Below.refl _ _) | (with_reducible assumption) | (with_reducible refine Below.trans ?_ (Below.mono (by assumption) (by first | omega | (simp; done) | (simp; omega) | (simp at *; omega))))))))) hp).mono ?_
    rintro e w1 ⟨rfl, hb1⟩
    have z1 := hb1.size
    try simp at z1
    have c1_0 : w1.cell? ⟨w.heap.size, 0, none⟩ = some (.int .i64 0) := by rw [(bcell hb1).1 _ _ (by first | (simp; done) | (simp; omega) | omega)]; simp [go_sem, World.cell?_alloc_past, *]
    have c1_1 : w1.cell? ⟨w.heap.size, 1, none⟩ = some (.int .i64 0) := by rw [(bcell hb1).1 _ _ (by first | (simp; done) | (simp; omega) | omega)]; simp [go_sem, World.cell?_alloc_past, *]
    have f1 : ∀ j, w1.frozen? ⟨w.heap.size, j, none⟩ = false := fun j => by rw [(bcell hb1).2 _ _ (by first | (simp; done) | (simp; omega) | omega)]; simp [go_sem, *]
    have o1_0 : w.heap.size < w1.heap.size := by omega
    have o1_1 : w1.heap.size ≠ w.heap.size := by omega
    have o1_2 : w.heap.size ≠ w1.heap.size := by omega
    have o1_3 : w.heap.size < w1.heap.size + 1 := by omega
    have hB1 : Below w.heap.size w w1 := (by (repeat (first | (with_reducible refine Below.drew ?_) | (with_reducible refine below_drewN ?_ _) | (with_reducible refine Below.alloc ?_ (by first | omega | (simp; done) | (simp; omega) | (simp at *; omega)) _) | (with_reducible refine Below.setCell ?_ (by first | omega | (simp; done) | (simp; omega) | (simp at *; omega)) _) | (with_reducible exact Below.refl _ _) | (with_reducible assumption) | (with_reducible refine Below.trans ?_ (Below.mono (by assumption) (by first | omega | (simp; done) | (simp; omega) | (simp at *; omega)))))))
    clear hb1
    go_wp2_with fail
    refine (negative_any pa pb _ (by omega) (by omega) (by omega) (by omega)).mono ?_
    rintro e w2 ⟨rfl, hb2⟩
    have z2 := hb2.size
    try simp at z2
    have c2_0 : w2.cell? ⟨w.heap.size, 0, none⟩ = some (.int .i64 0) := by rw [(bcell hb2).1 _ _ (by first | (simp; done) | (simp; omega) | omega)]; simp [go_sem, World.cell?_alloc_past, *]
    have c2_1 : w2.cell? ⟨w.heap.size, 1, none⟩ = some (.int .i64 0) := by rw [(bcell hb2).1 _ _ (by first | (simp; done) | (simp; omega) | omega)]; simp [go_sem, World.cell?_alloc_past, *]
    have f2 : ∀ j, w2.frozen? ⟨w.heap.size, j, none⟩ = false := fun j => by rw [(bcell hb2).2 _ _ (by first | (simp; done) | (simp; omega) | omega)]; simp [go_sem, *]
    have o2_0 : w.heap.size < w2.heap.size := by omega
    have o2_1 : w2.heap.size ≠ w.heap.size := by omega
    have o2_2 : w.heap.size ≠ w2.heap.size := by omega
    have o2_3 : w.heap.size < w2.heap.size + 1 := by omega
    have hB2 : Below w.heap.size w w2 := (by (repeat (first | (with_reducible refine Below.drew ?_) | (with_reducible refine below_drewN ?_ _) | (with_reducible refine Below.alloc ?_ (by first | omega | (simp; done) | (simp; omega) | (simp at *; omega)) _) | (with_reducible refine Below.setCell ?_ (by first | omega | (simp; done) | (simp; omega) | (simp at *; omega)) _) | (with_reducible exact Below.refl _ _) | (with_reducible assumption) | (with_reducible refine Below.trans ?_ (Below.mono (by assumption) (by first | omega | (simp; done) | (simp; omega) | (simp at *; omega)))))))
    clear hb2
    clear hB1 o1_0 o1_1 o1_2 o1_3 c1_0 c1_1 f1
    go_wp2
    refine bodyPost_ret (v := .agg #[.int .i64 (-pb), .int .i64 (-pa)]) (by simp [results, Tryz.results142, go_sem, *]) rfl ⟨rfl, ?_⟩
    (repeat (first | (with_reducible refine Below.drew ?_) | (with_reducible refine below_drewN ?_ _) | (with_reducible refine Below.alloc ?_ (by first | omega | (simp; done) | (simp; omega) | (simp at *; omega)) _) | (with_reducible refine Below.setCell ?_ (by first | omega | (simp; done) | (simp; omega) | (simp at *; omega)) _) | (with_reducible exact Below.refl _ _) | (with_reducible assumption) | (with_reducible refine Below.trans ?_ (Below.mono (by assumption) (by first | omega | (simp; done) | (simp; omega) | (simp at *; omega))))))
  · have hc : cosP n = (pc, pd) := by unfold cosP; rw [hq, hm.out, hp.out]; simp
    have d3 : (n : Int) / 1024 = 3 := by omega
    have d4 : (n : Int).tdiv 1024 = 3 := by rw [Int.tdiv_eq_ediv_of_nonneg (by omega)]; exact d3
    rw [hc]
    dsimp only
    clear hc hq d2 d4
    go_enter Tryz.func142, Tryz.ntmps142
    go_wp2_with fail
    refine (at_is b off m _ ⟨pa, pb, pc, pd⟩ _ rfl hm1 (by simp; omega) (Lib.hid (HA.out _ (by (repeat (first | (with_reducible refine Below.drew ?_) | (with_reducible refine below_drewN ?_ _) | (with_reducible refine Below.alloc ?_ (by first | omega | (simp; done) | (simp; omega) | (simp at *; omega)) _) | (with_reducible refine Below.setCell ?_ (by first | omega | (simp; done) | (simp; omega) | (simp at *; omega)) _) | (with_reducible exact Below.refl _ _) | (with_reducible assumption) | (with_reducible refine Below.trans ?_ (Below.mono (by assumption) (by first | omega | (simp; done) | (simp; omega) | (simp at *; omega))))))))) hp).mono ?_
    rintro e w1 ⟨rfl, hb1⟩
    have z1 := hb1.size
    try simp at z1
    have c1_0 : w1.cell? ⟨w.heap.size, 0, none⟩ = some (.int .i64 0) := by rw [(bcell hb1).1 _ _ (by first | (simp; done) | (simp; omega) | omega)]; simp [go_sem, World.cell?_alloc_past, *]
    have c1_1 : w1.cell? ⟨w.heap.size, 1, none⟩ = some (.int .i64 0) := by rw [(bcell hb1).1 _ _ (by first | (simp; done) | (simp; omega) | omega)]; simp [go_sem, World.cell?_alloc_past, *]
    have f1 : ∀ j, w1.frozen? ⟨w.heap.size, j, none⟩ = false := fun j => by rw [(bcell hb1).2 _ _ (by first | (simp; done) | (simp; omega) | omega)]; simp [go_sem, *]
    have o1_0 : w.heap.size < w1.heap.size := by omega
    have o1_1 : w1.heap.size ≠ w.heap.size := by omega
    have o1_2 : w.heap.size ≠ w1.heap.size := by omega
    have o1_3 : w.heap.size < w1.heap.size + 1 := by omega
    have hB1 : Below w.heap.size w w1 := (by (repeat (first | (with_reducible refine Below.drew ?_) | (with_reducible refine below_drewN ?_ _) | (with_reducible refine Below.alloc ?_ (by first | omega | (simp; done) | (simp; omega) | (simp at *; omega)) _) | (with_reducible refine Below.setCell ?_ (by first | omega | (simp; done) | (simp; omega) | (simp at *; omega)) _) | (with_reducible exact Below.refl _ _) | (with_reducible assumption) | (with_reducible refine Below.trans ?_ (Below.mono (by assumption) (by first | omega | (simp; done) | (simp; omega) | (simp at *; omega)))))))
    clear hb1
    go_wp2
    refine bodyPost_ret (v := .agg #[.int .i64 (pc), .int .i64 (pd)]) (by simp [results, Tryz.results142, go_sem, *]) rfl ⟨rfl, ?_⟩
    (repeat (first | (with_reducible refine Below.drew ?_) | (with_reducible refine below_drewN ?_ _) | (with_reducible refine Below.alloc ?_ (by first | omega | (simp; done) | (simp; omega) | (simp at *; omega)) _) | (with_reducible refine Below.setCell ?_ (by first | omega | (simp; done) | (simp; omega) | (simp at *; omega)) _) | (with_reducible exact Below.refl _ _) | (with_reducible assumption) | (with_reducible refine Below.trans ?_ (Below.mono (by assumption) (by first | omega | (simp; done) | (simp; omega) | (simp at *; omega))))))
  · have hc : cosP n = (pa, pb) := by unfold cosP; rw [hq, hm.out, hp.out]; simp
    have d3 : (n : Int) / 1024 = 4 := by omega
    have d4 : (n : Int).tdiv 1024 = 4 := by rw [Int.tdiv_eq_ediv_of_nonneg (by omega)]; exact d3
    rw [hc]
    dsimp only
    clear hc hq d2 d4
    go_enter Tryz.func142, Tryz.ntmps142
    go_wp2_with fail
    refine (at_is b off m _ ⟨pa, pb, pc, pd⟩ _ rfl hm1 (by simp; omega) (Lib.hid (HA.out _ (by (repeat (first | (with_reducible refine Below.drew ?_) | (with_reducible refine below_drewN ?_ _) | (with_reducible refine Below.alloc ?_ (by first | omega | (simp; done) | (simp; omega) | (simp at *; omega)) _) | (with_reducible refine Below.setCell ?_ (by first | omega | (simp; done) | (simp; omega) | (simp at *; omega)) _) | (with_reducible exact Below.refl _ _) | (with_reducible assumption) | (with_reducible refine Below.trans ?_ (Below.mono (by assumption) (by first | omega | (simp; done) | (simp; omega) | (simp at *; omega))))))))) hp).mono ?_
    rintro e w1 ⟨rfl, hb1⟩
    have z1 := hb1.size
    try simp at z1
    have c1_0 : w1.cell? ⟨w.heap.size, 0, none⟩ = some (.int .i64 0) := by rw [(bcell hb1).1 _ _ (by first | (simp; done) | (simp; omega) | omega)]; simp [go_sem, World.cell?_alloc_past, *]
    have c1_1 : w1.cell? ⟨w.heap.size, 1, none⟩ = some (.int .i64 0) := by rw [(bcell hb1).1 _ _ (by first | (simp; done) | (simp; omega) | omega)]; simp [go_sem, World.cell?_alloc_past, *]
    have f1 : ∀ j, w1.frozen? ⟨w.heap.size, j, none⟩ = false := fun j => by rw [(bcell hb1).2 _ _ (by first | (simp; done) | (simp; omega) | omega)]; simp [go_sem, *]
    have o1_0 : w.heap.size < w1.heap.size := by omega
    have o1_1 : w1.heap.size ≠ w.heap.size := by omega
    have o1_2 : w.heap.size ≠ w1.heap.size := by omega
    have o1_3 : w.heap.size < w1.heap.size + 1 := by omega
    have hB1 : Below w.heap.size w w1 := (by (repeat (first | (with_reducible refine Below.drew ?_) | (with_reducible refine below_drewN ?_ _) | (with_reducible refine Below.alloc ?_ (by first | omega | (simp; done) | (simp; omega) | (simp at *; omega)) _) | (with_reducible refine Below.setCell ?_ (by first | omega | (simp; done) | (simp; omega) | (simp at *; omega)) _) | (with_reducible exact Below.refl _ _) | (with_reducible assumption) | (with_reducible refine Below.trans ?_ (Below.mono (by assumption) (by first | omega | (simp; done) | (simp; omega) | (simp at *; omega)))))))
    clear hb1
    go_wp2
    refine bodyPost_ret (v := .agg #[.int .i64 (pa), .int .i64 (pb)]) (by simp [results, Tryz.results142, go_sem, *]) rfl ⟨rfl, ?_⟩
    (repeat (first | (with_reducible refine Below.drew ?_) | (with_reducible refine below_drewN ?_ _) | (with_reducible refine Below.alloc ?_ (by first | omega | (simp; done) | (simp; omega) | (simp at *; omega)) _) | (with_reducible refine Below.setCell ?_ (by first | omega | (simp; done) | (simp; omega) | (simp at *; omega)) _) | (with_reducible exact Below.refl _ _) | (with_reducible assumption) | (with_reducible refine Below.trans ?_ (Below.mono (by assumption) (by first | omega | (simp; done) | (simp; omega) | (simp at *; omega))))))
end Go.Proofs.YtojaompfffpofaaGreat
