import Derived.Test.YtojaompfffpofaaGreatZUSRefB
import Derived.Outline
import Derived.Test.YtojaompfffpofaaGreatZURootB
import Derived.Laws.StructEq
namespace Go.Proofs.YtojaompfffpofaaGreat
open Go.ChangeShapes Go.WideShapes Go.ChangeAt Go.RowKit
set_option linter.unusedVariables false
set_option linter.unusedSimpArgs false
attribute [local go_sem ↓] Go.wp_at_zero Go.wp_at_succ
theorem rless_any (a b : Int) (w : World) (a0 : -100000000 ≤ a) (a1 : a ≤ 100000000) (b0 : -100000000 ≤ b) (b1 : b ≤ 100000000) :
    Calls Tryz.prog 160 #[.agg #[.int .i64 a, .int .i64 b]] w fun e w' => e = .returned (.agg #[.int .i64 (-b), .int .i64 (-a)]) ∧ Below w.heap.size w w' := by
  have e1 : IntKind.i64.wrap (-a) = -a := IntWalk.i64_in _ (by omega)
  have e2 : IntKind.i64.wrap (-b) = -b := IntWalk.i64_in _ (by omega)
  go_enter Tryz.func160, Tryz.ntmps160
  go_wp2
  refine bodyPost_ret (v := .agg #[.int .i64 (-b), .int .i64 (-a)]) (by simp [results, Tryz.results160, go_sem, *]) rfl ⟨rfl, ?_⟩
  (repeat (first | (with_reducible refine Below.drew ?_) | (with_reducible refine below_drewN ?_ _) | (with_reducible refine Below.alloc ?_ (by first | omega | (simp; done) | (simp; omega) | (simp at *; omega)) _) | (with_reducible refine Below.setCell ?_ (by first | omega | (simp; done) | (simp; omega) | (simp at *; omega)) _) | (with_reducible exact Below.refl _ _) | (with_reducible assumption) | (with_reducible refine Below.trans ?_ (Below.mono (by assumption) (by first | omega | (simp; done) | (simp; omega) | (simp at *; omega))))))
theorem refBoth_is (n : Int) (m : Nat) (a b c d : Int) (w : World) (hn : n = (m : Int)) (hm : m < 1024) (hp : Hid (atP m 11 = ⟨a, b, c, d⟩)) :
    Calls Tryz.prog 159 #[.int .i64 n] w fun e w' => e = .returned (.tuple #[.agg #[.int .i64 a, .int .i64 b], .agg #[.int .i64 c, .int .i64 d]]) ∧ Below w.heap.size w w' := by
  subst hn
  have := refBoth_any m hm w
  rw [hp.out] at this; exact this
set_option maxRecDepth 100000 in
set_option maxHeartbeats 2000000 in
theorem refCos_any (n : Nat) (w : World) (hn : n < 4096) :
    Calls Tryz.prog 144 #[.int .i64 n] w fun e w' => e = .returned (.agg #[.int .i64 (cosP n).1, .int .i64 (cosP n).2]) ∧ Below w.heap.size w w' := by
  obtain ⟨m, hm⟩ : ∃ m, Hid (n % 1024 = m) := ⟨_, Lib.hid rfl⟩
  have hm1 : m < 1024 := by rw [← hm.out]; omega
  obtain ⟨⟨pa, pb, pc, pd⟩, hp⟩ : ∃ q, Hid (atP m 11 = q) := ⟨_, Lib.hid rfl⟩
  have kp : PtOk ⟨pa, pb, pc, pd⟩ := by rw [← hp.out]; exact atP_ok hm1 (by omega)
  obtain ⟨k1, k2, k3, k4, k5, k6⟩ := kp
  dsimp only at k1 k2 k3 k4 k5 k6
  have d1 : (n : Int) % 1024 = m := by rw [← hm.out]; omega
  have d2 : (n : Int).tmod 1024 = m := by rw [Int.tmod_eq_emod_of_nonneg (by omega)]; exact d1
  have w1 : IntKind.i64.wrap (m : Int) = m := IntWalk.i64_in _ (by omega)
  have hqe : cosP n = if n / 1024 = 1 then (-pd, -pc) else if n / 1024 = 2 then (-pb, -pa) else if n / 1024 = 3 then (pc, pd) else (pa, pb) := by
    unfold cosP; rw [hm.out, hp.out]
  obtain ⟨q, hq⟩ : ∃ q, Hid (n / 1024 = q) := ⟨_, Lib.hid rfl⟩
  rw [hq.out] at hqe
  have q4 : q ≤ 3 := by rw [← hq.out]; omega
  have d3 : (n : Int) / 1024 = (q : Int) := by rw [← hq.out]; omega
  have d4 : (n : Int).tdiv 1024 = (q : Int) := by rw [Int.tdiv_eq_ediv_of_nonneg (by omega)]; exact d3
  have w2 : IntKind.i64.wrap (q : Int) = (q : Int) := IntWalk.i64_in _ (by omega)
  have HB := Lib.hid fun w => refBoth_is (m : Int) m pa pb pc pd w rfl hm1 hp
  have HL1 := Lib.hid fun w => rless_any pc pd w (by omega) (by omega) (by omega) (by omega)
  have HL2 := Lib.hid fun w => rless_any pa pb w (by omega) (by omega) (by omega) (by omega)
  clear hm hp hq
  rcases (show q = 0 ∨ q = 1 ∨ q = 2 ∨ q = 3 by omega) with h | h | h | h
  · subst h
    rw [show cosP n = (pa, pb) from by rw [hqe]; rfl]
    dsimp only
    clear hqe
    go_enter Tryz.func144, Tryz.ntmps144
    go_wp2_with (first
      | (go_at_call 159; refine (HB.out _).mono ?_; rintro e w1 ⟨rfl, hb1⟩; have z1 := hb1.size; (try simp at z1); have r10 : w1.cell? ⟨w.heap.size, 0, none⟩ = some (.int .i64 0) := (by rw [(bcell hb1).1 _ _ (by first | (simp; done) | (simp; omega) | omega)]; simp [go_sem, World.cell?_alloc_past, *]); have r11 : w1.cell? ⟨w.heap.size, 1, none⟩ = some (.int .i64 0) := (by rw [(bcell hb1).1 _ _ (by first | (simp; done) | (simp; omega) | omega)]; simp [go_sem, World.cell?_alloc_past, *]); have r12 : (∀ j, w1.frozen? ⟨w.heap.size, j, none⟩ = false) := (by intro j; rw [(bcell hb1).2 _ _ (by first | (simp; done) | (simp; omega) | omega)]; simp [go_sem, *]); have n10 : w.heap.size < w1.heap.size := (by omega); have n11 : w.heap.size ≠ w1.heap.size := (by omega); have n12 : w1.heap.size ≠ w.heap.size := (by omega); have n13 : w.heap.size < w1.heap.size + 1 := (by omega); have n14 : w.heap.size ≠ w1.heap.size + 1 := (by omega); have n15 : w1.heap.size + 1 ≠ w.heap.size := (by omega); have hB1 : Below w.heap.size w w1 := (by (repeat (first | (with_reducible refine Below.drew ?_) | (with_reducible refine below_drewN ?_ _) | (with_reducible refine Below.alloc ?_ (by first | omega | (simp; done) | (simp; omega) | (simp at *; omega)) _) | (with_reducible refine Below.setCell ?_ (by first | omega | (simp; done) | (simp; omega) | (simp at *; omega)) _) | (with_reducible exact Below.refl _ _) | (with_reducible assumption) | (with_reducible refine Below.trans ?_ (Below.mono (by assumption) (by first | omega | (simp; done) | (simp; omega) | (simp at *; omega))))))); clear hb1)
      | (go_at_call 160; refine (HL1.out _).mono ?_; rintro e w2 ⟨rfl, hb2⟩; have z2 := hb2.size; (try simp at z2); have r20 : w2.cell? ⟨w.heap.size, 0, none⟩ = some (.int .i64 0) := (by rw [(bcell hb2).1 _ _ (by first | (simp; done) | (simp; omega) | omega)]; simp [go_sem, World.cell?_alloc_past, *]); have r21 : w2.cell? ⟨w.heap.size, 1, none⟩ = some (.int .i64 0) := (by rw [(bcell hb2).1 _ _ (by first | (simp; done) | (simp; omega) | omega)]; simp [go_sem, World.cell?_alloc_past, *]); have r22 : (∀ j, w2.frozen? ⟨w.heap.size, j, none⟩ = false) := (by intro j; rw [(bcell hb2).2 _ _ (by first | (simp; done) | (simp; omega) | omega)]; simp [go_sem, *]); have n20 : w.heap.size < w2.heap.size := (by omega); have n21 : w.heap.size ≠ w2.heap.size := (by omega); have n22 : w2.heap.size ≠ w.heap.size := (by omega); have n23 : w.heap.size < w2.heap.size + 1 := (by omega); have n24 : w.heap.size ≠ w2.heap.size + 1 := (by omega); have n25 : w2.heap.size + 1 ≠ w.heap.size := (by omega); have hB2 : Below w.heap.size w w2 := (by (repeat (first | (with_reducible refine Below.drew ?_) | (with_reducible refine below_drewN ?_ _) | (with_reducible refine Below.alloc ?_ (by first | omega | (simp; done) | (simp; omega) | (simp at *; omega)) _) | (with_reducible refine Below.setCell ?_ (by first | omega | (simp; done) | (simp; omega) | (simp at *; omega)) _) | (with_reducible exact Below.refl _ _) | (with_reducible assumption) | (with_reducible refine Below.trans ?_ (Below.mono (by assumption) (by first | omega | (simp; done) | (simp; omega) | (simp at *; omega))))))); clear hb2)
      | (go_at_call 160; refine (HL2.out _).mono ?_; rintro e w3 ⟨rfl, hb3⟩; have z3 := hb3.size; (try simp at z3); have r30 : w3.cell? ⟨w.heap.size, 0, none⟩ = some (.int .i64 0) := (by rw [(bcell hb3).1 _ _ (by first | (simp; done) | (simp; omega) | omega)]; simp [go_sem, World.cell?_alloc_past, *]); have r31 : w3.cell? ⟨w.heap.size, 1, none⟩ = some (.int .i64 0) := (by rw [(bcell hb3).1 _ _ (by first | (simp; done) | (simp; omega) | omega)]; simp [go_sem, World.cell?_alloc_past, *]); have r32 : (∀ j, w3.frozen? ⟨w.heap.size, j, none⟩ = false) := (by intro j; rw [(bcell hb3).2 _ _ (by first | (simp; done) | (simp; omega) | omega)]; simp [go_sem, *]); have n30 : w.heap.size < w3.heap.size := (by omega); have n31 : w.heap.size ≠ w3.heap.size := (by omega); have n32 : w3.heap.size ≠ w.heap.size := (by omega); have n33 : w.heap.size < w3.heap.size + 1 := (by omega); have n34 : w.heap.size ≠ w3.heap.size + 1 := (by omega); have n35 : w3.heap.size + 1 ≠ w.heap.size := (by omega); have hB3 : Below w.heap.size w w3 := (by (repeat (first | (with_reducible refine Below.drew ?_) | (with_reducible refine below_drewN ?_ _) | (with_reducible refine Below.alloc ?_ (by first | omega | (simp; done) | (simp; omega) | (simp at *; omega)) _) | (with_reducible refine Below.setCell ?_ (by first | omega | (simp; done) | (simp; omega) | (simp at *; omega)) _) | (with_reducible exact Below.refl _ _) | (with_reducible assumption) | (with_reducible refine Below.trans ?_ (Below.mono (by assumption) (by first | omega | (simp; done) | (simp; omega) | (simp at *; omega))))))); clear hb3))
    refine bodyPost_ret (v := .agg #[.int .i64 (pa), .int .i64 (pb)]) (by simp [results, Tryz.results144, go_sem, *] <;> omega) rfl ⟨rfl, ?_⟩
    (repeat (first | (with_reducible refine Below.drew ?_) | (with_reducible refine below_drewN ?_ _) | (with_reducible refine Below.alloc ?_ (by first | omega | (simp; done) | (simp; omega) | (simp at *; omega)) _) | (with_reducible refine Below.setCell ?_ (by first | omega | (simp; done) | (simp; omega) | (simp at *; omega)) _) | (with_reducible exact Below.refl _ _) | (with_reducible assumption) | (with_reducible refine Below.trans ?_ (Below.mono (by assumption) (by first | omega | (simp; done) | (simp; omega) | (simp at *; omega))))))
  · subst h
    rw [show cosP n = (-pd, -pc) from by rw [hqe]; rfl]
    dsimp only
    clear hqe
    go_enter Tryz.func144, Tryz.ntmps144
    go_wp2_with (first
      | (go_at_call 159; refine (HB.out _).mono ?_; rintro e w1 ⟨rfl, hb1⟩; have z1 := hb1.size; (try simp at z1); have r10 : w1.cell? ⟨w.heap.size, 0, none⟩ = some (.int .i64 0) := (by rw [(bcell hb1).1 _ _ (by first | (simp; done) | (simp; omega) | omega)]; simp [go_sem, World.cell?_alloc_past, *]); have r11 : w1.cell? ⟨w.heap.size, 1, none⟩ = some (.int .i64 0) := (by rw [(bcell hb1).1 _ _ (by first | (simp; done) | (simp; omega) | omega)]; simp [go_sem, World.cell?_alloc_past, *]); have r12 : (∀ j, w1.frozen? ⟨w.heap.size, j, none⟩ = false) := (by intro j; rw [(bcell hb1).2 _ _ (by first | (simp; done) | (simp; omega) | omega)]; simp [go_sem, *]); have n10 : w.heap.size < w1.heap.size := (by omega); have n11 : w.heap.size ≠ w1.heap.size := (by omega); have n12 : w1.heap.size ≠ w.heap.size := (by omega); have n13 : w.heap.size < w1.heap.size + 1 := (by omega); have n14 : w.heap.size ≠ w1.heap.size + 1 := (by omega); have n15 : w1.heap.size + 1 ≠ w.heap.size := (by omega); have hB1 : Below w.heap.size w w1 := (by (repeat (first | (with_reducible refine Below.drew ?_) | (with_reducible refine below_drewN ?_ _) | (with_reducible refine Below.alloc ?_ (by first | omega | (simp; done) | (simp; omega) | (simp at *; omega)) _) | (with_reducible refine Below.setCell ?_ (by first | omega | (simp; done) | (simp; omega) | (simp at *; omega)) _) | (with_reducible exact Below.refl _ _) | (with_reducible assumption) | (with_reducible refine Below.trans ?_ (Below.mono (by assumption) (by first | omega | (simp; done) | (simp; omega) | (simp at *; omega))))))); clear hb1)
      | (go_at_call 160; refine (HL1.out _).mono ?_; rintro e w2 ⟨rfl, hb2⟩; have z2 := hb2.size; (try simp at z2); have r20 : w2.cell? ⟨w.heap.size, 0, none⟩ = some (.int .i64 0) := (by rw [(bcell hb2).1 _ _ (by first | (simp; done) | (simp; omega) | omega)]; simp [go_sem, World.cell?_alloc_past, *]); have r21 : w2.cell? ⟨w.heap.size, 1, none⟩ = some (.int .i64 0) := (by rw [(bcell hb2).1 _ _ (by first | (simp; done) | (simp; omega) | omega)]; simp [go_sem, World.cell?_alloc_past, *]); have r22 : (∀ j, w2.frozen? ⟨w.heap.size, j, none⟩ = false) := (by intro j; rw [(bcell hb2).2 _ _ (by first | (simp; done) | (simp; omega) | omega)]; simp [go_sem, *]); have n20 : w.heap.size < w2.heap.size := (by omega); have n21 : w.heap.size ≠ w2.heap.size := (by omega); have n22 : w2.heap.size ≠ w.heap.size := (by omega); have n23 : w.heap.size < w2.heap.size + 1 := (by omega); have n24 : w.heap.size ≠ w2.heap.size + 1 := (by omega); have n25 : w2.heap.size + 1 ≠ w.heap.size := (by omega); have hB2 : Below w.heap.size w w2 := (by (repeat (first | (with_reducible refine Below.drew ?_) | (with_reducible refine below_drewN ?_ _) | (with_reducible refine Below.alloc ?_ (by first | omega | (simp; done) | (simp; omega) | (simp at *; omega)) _) | (with_reducible refine Below.setCell ?_ (by first | omega | (simp; done) | (simp; omega) | (simp at *; omega)) _) | (with_reducible exact Below.refl _ _) | (with_reducible assumption) | (with_reducible refine Below.trans ?_ (Below.mono (by assumption) (by first | omega | (simp; done) | (simp; omega) | (simp at *; omega))))))); clear hb2)
      | (go_at_call 160; refine (HL2.out _).mono ?_; rintro e w3 ⟨rfl, hb3⟩; have z3 := hb3.size; (try simp at z3); have r30 : w3.cell? ⟨w.heap.size, 0, none⟩ = some (.int .i64 0) := (by rw [(bcell hb3).1 _ _ (by first | (simp; done) | (simp; omega) | omega)]; simp [go_sem, World.cell?_alloc_past, *]); have r31 : w3.cell? ⟨w.heap.size, 1, none⟩ = some (.int .i64 0) := (by rw [(bcell hb3).1 _ _ (by first | (simp; done) | (simp; omega) | omega)]; simp [go_sem, World.cell?_alloc_past, *]); have r32 : (∀ j, w3.frozen? ⟨w.heap.size, j, none⟩ = false) := (by intro j; rw [(bcell hb3).2 _ _ (by first | (simp; done) | (simp; omega) | omega)]; simp [go_sem, *]); have n30 : w.heap.size < w3.heap.size := (by omega); have n31 : w.heap.size ≠ w3.heap.size := (by omega); have n32 : w3.heap.size ≠ w.heap.size := (by omega); have n33 : w.heap.size < w3.heap.size + 1 := (by omega); have n34 : w.heap.size ≠ w3.heap.size + 1 := (by omega); have n35 : w3.heap.size + 1 ≠ w.heap.size := (by omega); have hB3 : Below w.heap.size w w3 := (by (repeat (first | (with_reducible refine Below.drew ?_) | (with_reducible refine below_drewN ?_ _) | (with_reducible refine Below.alloc ?_ (by first | omega | (simp; done) | (simp; omega) | (simp at *; omega)) _) | (with_reducible refine Below.setCell ?_ (by first | omega | (simp; done) | (simp; omega) | (simp at *; omega)) _) | (with_reducible exact Below.refl _ _) | (with_reducible assumption) | (with_reducible refine Below.trans ?_ (Below.mono (by assumption) (by first | omega | (simp; done) | (simp; omega) | (simp at *; omega))))))); clear hb3))
    refine bodyPost_ret (v := .agg #[.int .i64 (-pd), .int .i64 (-pc)]) (by simp [results, Tryz.results144, go_sem, *] <;> omega) rfl ⟨rfl, ?_⟩
    (repeat (first | (with_reducible refine Below.drew ?_) | (with_reducible refine below_drewN ?_ _) | (with_reducible refine Below.alloc ?_ (by first | omega | (simp; done) | (simp; omega) | (simp at *; omega)) _) | (with_reducible refine Below.setCell ?_ (by first | omega | (simp; done) | (simp; omega) | (simp at *; omega)) _) | (with_reducible exact Below.refl _ _) | (with_reducible assumption) | (with_reducible refine Below.trans ?_ (Below.mono (by assumption) (by first | omega | (simp; done) | (simp; omega) | (simp at *; omega))))))
  · subst h
    rw [show cosP n = (-pb, -pa) from by rw [hqe]; rfl]
    dsimp only
    clear hqe
    go_enter Tryz.func144, Tryz.ntmps144
    go_wp2_with (first
      | (go_at_call 159; refine (HB.out _).mono ?_; rintro e w1 ⟨rfl, hb1⟩; have z1 := hb1.size; (try simp at z1); have r10 : w1.cell? ⟨w.heap.size, 0, none⟩ = some (.int .i64 0) := (by rw [(bcell hb1).1 _ _ (by first | (simp; done) | (simp; omega) | omega)]; simp [go_sem, World.cell?_alloc_past, *]); have r11 : w1.cell? ⟨w.heap.size, 1, none⟩ = some (.int .i64 0) := (by rw [(bcell hb1).1 _ _ (by first | (simp; done) | (simp; omega) | omega)]; simp [go_sem, World.cell?_alloc_past, *]); have r12 : (∀ j, w1.frozen? ⟨w.heap.size, j, none⟩ = false) := (by intro j; rw [(bcell hb1).2 _ _ (by first | (simp; done) | (simp; omega) | omega)]; simp [go_sem, *]); have n10 : w.heap.size < w1.heap.size := (by omega); have n11 : w.heap.size ≠ w1.heap.size := (by omega); have n12 : w1.heap.size ≠ w.heap.size := (by omega); have n13 : w.heap.size < w1.heap.size + 1 := (by omega); have n14 : w.heap.size ≠ w1.heap.size + 1 := (by omega); have n15 : w1.heap.size + 1 ≠ w.heap.size := (by omega); have hB1 : Below w.heap.size w w1 := (by (repeat (first | (with_reducible refine Below.drew ?_) | (with_reducible refine below_drewN ?_ _) | (with_reducible refine Below.alloc ?_ (by first | omega | (simp; done) | (simp; omega) | (simp at *; omega)) _) | (with_reducible refine Below.setCell ?_ (by first | omega | (simp; done) | (simp; omega) | (simp at *; omega)) _) | (with_reducible exact Below.refl _ _) | (with_reducible assumption) | (with_reducible refine Below.trans ?_ (Below.mono (by assumption) (by first | omega | (simp; done) | (simp; omega) | (simp at *; omega))))))); clear hb1)
      | (go_at_call 160; refine (HL1.out _).mono ?_; rintro e w2 ⟨rfl, hb2⟩; have z2 := hb2.size; (try simp at z2); have r20 : w2.cell? ⟨w.heap.size, 0, none⟩ = some (.int .i64 0) := (by rw [(bcell hb2).1 _ _ (by first | (simp; done) | (simp; omega) | omega)]; simp [go_sem, World.cell?_alloc_past, *]); have r21 : w2.cell? ⟨w.heap.size, 1, none⟩ = some (.int .i64 0) := (by rw [(bcell hb2).1 _ _ (by first | (simp; done) | (simp; omega) | omega)]; simp [go_sem, World.cell?_alloc_past, *]); have r22 : (∀ j, w2.frozen? ⟨w.heap.size, j, none⟩ = false) := (by intro j; rw [(bcell hb2).2 _ _ (by first | (simp; done) | (simp; omega) | omega)]; simp [go_sem, *]); have n20 : w.heap.size < w2.heap.size := (by omega); have n21 : w.heap.size ≠ w2.heap.size := (by omega); have n22 : w2.heap.size ≠ w.heap.size := (by omega); have n23 : w.heap.size < w2.heap.size + 1 := (by omega); have n24 : w.heap.size ≠ w2.heap.size + 1 := (by omega); have n25 : w2.heap.size + 1 ≠ w.heap.size := (by omega); have hB2 : Below w.heap.size w w2 := (by (repeat (first | (with_reducible refine Below.drew ?_) | (with_reducible refine below_drewN ?_ _) | (with_reducible refine Below.alloc ?_ (by first | omega | (simp; done) | (simp; omega) | (simp at *; omega)) _) | (with_reducible refine Below.setCell ?_ (by first | omega | (simp; done) | (simp; omega) | (simp at *; omega)) _) | (with_reducible exact Below.refl _ _) | (with_reducible assumption) | (with_reducible refine Below.trans ?_ (Below.mono (by assumption) (by first | omega | (simp; done) | (simp; omega) | (simp at *; omega))))))); clear hb2)
      | (go_at_call 160; refine (HL2.out _).mono ?_; rintro e w3 ⟨rfl, hb3⟩; have z3 := hb3.size; (try simp at z3); have r30 : w3.cell? ⟨w.heap.size, 0, none⟩ = some (.int .i64 0) := (by rw [(bcell hb3).1 _ _ (by first | (simp; done) | (simp; omega) | omega)]; simp [go_sem, World.cell?_alloc_past, *]); have r31 : w3.cell? ⟨w.heap.size, 1, none⟩ = some (.int .i64 0) := (by rw [(bcell hb3).1 _ _ (by first | (simp; done) | (simp; omega) | omega)]; simp [go_sem, World.cell?_alloc_past, *]); have r32 : (∀ j, w3.frozen? ⟨w.heap.size, j, none⟩ = false) := (by intro j; rw [(bcell hb3).2 _ _ (by first | (simp; done) | (simp; omega) | omega)]; simp [go_sem, *]); have n30 : w.heap.size < w3.heap.size := (by omega); have n31 : w.heap.size ≠ w3.heap.size := (by omega); have n32 : w3.heap.size ≠ w.heap.size := (by omega); have n33 : w.heap.size < w3.heap.size + 1 := (by omega); have n34 : w.heap.size ≠ w3.heap.size + 1 := (by omega); have n35 : w3.heap.size + 1 ≠ w.heap.size := (by omega); have hB3 : Below w.heap.size w w3 := (by (repeat (first | (with_reducible refine Below.drew ?_) | (with_reducible refine below_drewN ?_ _) | (with_reducible refine Below.alloc ?_ (by first | omega | (simp; done) | (simp; omega) | (simp at *; omega)) _) | (with_reducible refine Below.setCell ?_ (by first | omega | (simp; done) | (simp; omega) | (simp at *; omega)) _) | (with_reducible exact Below.refl _ _) | (with_reducible assumption) | (with_reducible refine Below.trans ?_ (Below.mono (by assumption) (by first | omega | (simp; done) | (simp; omega) | (simp at *; omega))))))); clear hb3))
    refine bodyPost_ret (v := .agg #[.int .i64 (-pb), .int .i64 (-pa)]) (by simp [results, Tryz.results144, go_sem, *] <;> omega) rfl ⟨rfl, ?_⟩
    (repeat (first | (with_reducible refine Below.drew ?_) | (with_reducible refine below_drewN ?_ _) | (with_reducible refine Below.alloc ?_ (by first | omega | (simp; done) | (simp; omega) | (simp at *; omega)) _) | (with_reducible refine Below.setCell ?_ (by first | omega | (simp; done) | (simp; omega) | (simp at *; omega)) _) | (with_reducible exact Below.refl _ _) | (with_reducible assumption) | (with_reducible refine Below.trans ?_ (Below.mono (by assumption) (by first | omega | (simp; done) | (simp; omega) | (simp at *; omega))))))
  · subst h
    rw [show cosP n = (pc, pd) from by rw [hqe]; rfl]
    dsimp only
    clear hqe
    go_enter Tryz.func144, Tryz.ntmps144
    go_wp2_with (first
      | (go_at_call 159; refine (HB.out _).mono ?_; rintro e w1 ⟨rfl, hb1⟩; have z1 := hb1.size; (try simp at z1); have r10 : w1.cell? ⟨w.heap.size, 0, none⟩ = some (.int .i64 0) := (by rw [(bcell hb1).1 _ _ (by first | (simp; done) | (simp; omega) | omega)]; simp [go_sem, World.cell?_alloc_past, *]); have r11 : w1.cell? ⟨w.heap.size, 1, none⟩ = some (.int .i64 0) := (by rw [(bcell hb1).1 _ _ (by first | (simp; done) | (simp; omega) | omega)]; simp [go_sem, World.cell?_alloc_past, *]); have r12 : (∀ j, w1.frozen? ⟨w.heap.size, j, none⟩ = false) := (by intro j; rw [(bcell hb1).2 _ _ (by first | (simp; done) | (simp; omega) | omega)]; simp [go_sem, *]); have n10 : w.heap.size < w1.heap.size := (by omega); have n11 : w.heap.size ≠ w1.heap.size := (by omega); have n12 : w1.heap.size ≠ w.heap.size := (by omega); have n13 : w.heap.size < w1.heap.size + 1 := (by omega); have n14 : w.heap.size ≠ w1.heap.size + 1 := (by omega); have n15 : w1.heap.size + 1 ≠ w.heap.size := (by omega); have hB1 : Below w.heap.size w w1 := (by (repeat (first | (with_reducible refine Below.drew ?_) | (with_reducible refine below_drewN ?_ _) | (with_reducible refine Below.alloc ?_ (by first | omega | (simp; done) | (simp; omega) | (simp at *; omega)) _) | (with_reducible refine Below.setCell ?_ (by first | omega | (simp; done) | (simp; omega) | (simp at *; omega)) _) | (with_reducible exact Below.refl _ _) | (with_reducible assumption) | (with_reducible refine Below.trans ?_ (Below.mono (by assumption) (by first | omega | (simp; done) | (simp; omega) | (simp at *; omega))))))); clear hb1)
      | (go_at_call 160; refine (HL1.out _).mono ?_; rintro e w2 ⟨rfl, hb2⟩; have z2 := hb2.size; (try simp at z2); have r20 : w2.cell? ⟨w.heap.size, 0, none⟩ = some (.int .i64 0) := (by rw [(bcell hb2).1 _ _ (by first | (simp; done) | (simp; omega) | omega)]; simp [go_sem, World.cell?_alloc_past, *]); have r21 : w2.cell? ⟨w.heap.size, 1, none⟩ = some (.int .i64 0) := (by rw [(bcell hb2).1 _ _ (by first | (simp; done) | (simp; omega) | omega)]; simp [go_sem, World.cell?_alloc_past, *]); have r22 : (∀ j, w2.frozen? ⟨w.heap.size, j, none⟩ = false) := (by intro j; rw [(bcell hb2).2 _ _ (by first | (simp; done) | (simp; omega) | omega)]; simp [go_sem, *]); have n20 : w.heap.size < w2.heap.size := (by omega); have n21 : w.heap.size ≠ w2.heap.size := (by omega); have n22 : w2.heap.size ≠ w.heap.size := (by omega); have n23 : w.heap.size < w2.heap.size + 1 := (by omega); have n24 : w.heap.size ≠ w2.heap.size + 1 := (by omega); have n25 : w2.heap.size + 1 ≠ w.heap.size := (by omega); have hB2 : Below w.heap.size w w2 := (by (repeat (first | (with_reducible refine Below.drew ?_) | (with_reducible refine below_drewN ?_ _) | (with_reducible refine Below.alloc ?_ (by first | omega | (simp; done) | (simp; omega) | (simp at *; omega)) _) | (with_reducible refine Below.setCell ?_ (by first | omega | (simp; done) | (simp; omega) | (simp at *; omega)) _) | (with_reducible exact Below.refl _ _) | (with_reducible assumption) | (with_reducible refine Below.trans ?_ (Below.mono (by assumption) (by first | omega | (simp; done) | (simp; omega) | (simp at *; omega))))))); clear hb2)
      | (go_at_call 160; refine (HL2.out _).mono ?_; rintro e w3 ⟨rfl, hb3⟩; have z3 := hb3.size; (try simp at z3); have r30 : w3.cell? ⟨w.heap.size, 0, none⟩ = some (.int .i64 0) := (by rw [(bcell hb3).1 _ _ (by first | (simp; done) | (simp; omega) | omega)]; simp [go_sem, World.cell?_alloc_past, *]); have r31 : w3.cell? ⟨w.heap.size, 1, none⟩ = some (.int .i64 0) := (by rw [(bcell hb3).1 _ _ (by first | (simp; done) | (simp; omega) | omega)]; simp [go_sem, World.cell?_alloc_past, *]); have r32 : (∀ j, w3.frozen? ⟨w.heap.size, j, none⟩ = false) := (by intro j; rw [(bcell hb3).2 _ _ (by first | (simp; done) | (simp; omega) | omega)]; simp [go_sem, *]); have n30 : w.heap.size < w3.heap.size := (by omega); have n31 : w.heap.size ≠ w3.heap.size := (by omega); have n32 : w3.heap.size ≠ w.heap.size := (by omega); have n33 : w.heap.size < w3.heap.size + 1 := (by omega); have n34 : w.heap.size ≠ w3.heap.size + 1 := (by omega); have n35 : w3.heap.size + 1 ≠ w.heap.size := (by omega); have hB3 : Below w.heap.size w w3 := (by (repeat (first | (with_reducible refine Below.drew ?_) | (with_reducible refine below_drewN ?_ _) | (with_reducible refine Below.alloc ?_ (by first | omega | (simp; done) | (simp; omega) | (simp at *; omega)) _) | (with_reducible refine Below.setCell ?_ (by first | omega | (simp; done) | (simp; omega) | (simp at *; omega)) _) | (with_reducible exact Below.refl _ _) | (with_reducible assumption) | (with_reducible refine Below.trans ?_ (Below.mono (by assumption) (by first | omega | (simp; done) | (simp; omega) | (simp at *; omega))))))); clear hb3))
    refine bodyPost_ret (v := .agg #[.int .i64 (pc), .int .i64 (pd)]) (by simp [results, Tryz.results144, go_sem, *] <;> omega) rfl ⟨rfl, ?_⟩
    (repeat (first | (with_reducible refine Below.drew ?_) | (with_reducible refine below_drewN ?_ _) | (with_reducible refine Below.alloc ?_ (by first | omega | (simp; done) | (simp; omega) | (simp at *; omega)) _) | (with_reducible refine Below.setCell ?_ (by first | omega | (simp; done) | (simp; omega) | (simp at *; omega)) _) | (with_reducible exact Below.refl _ _) | (with_reducible assumption) | (with_reducible refine Below.trans ?_ (Below.mono (by assumption) (by first | omega | (simp; done) | (simp; omega) | (simp at *; omega))))))
end Go.Proofs.YtojaompfffpofaaGreat

namespace Go.Proofs.YtojaompfffpofaaGreat
open Go.ChangeShapes Go.WideShapes Go.ChangeAt Go.RowKit
set_option linter.unusedVariables false
set_option linter.unusedSimpArgs false
attribute [local go_sem ↓] Go.wp_at_zero Go.wp_at_succ
/-- Floor and Ceil of any number. -/
def clD (n d : Int) : Int := (n + d - 1) / d
theorem floor_is (n d q : Int) (w : World) (h0 : 0 ≤ n) (h1 : n ≤ 1000000000000000000) (h2 : 0 < d) (h3 : d ≤ 1000000000000000000) (hq : Hid (n / d = q)) :
    Calls Tryz.prog 115 #[.int .i64 n, .int .i64 d] w fun e w' => e = .returned (.int .i64 q) ∧ w = w' := by
  rw [← hq.out]; exact baseFloor_nn n d w h0 h1 h2 h3
theorem ceil_is (n d q : Int) (w : World) (h0 : 0 ≤ n) (h1 : n ≤ 1000000000000000000) (h2 : 0 < d) (h3 : d ≤ 1000000000000000000) (hq : Hid (clD n d = q)) :
    Calls Tryz.prog 116 #[.int .i64 n, .int .i64 d] w fun e w' => e = .returned (.int .i64 q) ∧ w = w' := by
  rw [← hq.out]; exact baseCeil_nn n d w h0 h1 h2 h3
theorem div_add_mul {a k p : Int} (hp : 0 < p) : (k * p + a) / p = k + a / p := by
  rw [Int.add_comm, Int.add_mul_ediv_right _ _ (by omega)]; omega
theorem angLo_eq {w : Wv} (hw : WvOk w) {t : Int} (h0 : 0 ≤ t) : angLo w t = (w.f + 4096 * t / w.p) % 4096 := by
  have hp := hw.p0
  unfold angLo angI
  generalize hN : w.f * w.p + 4096 * t = N
  have e1 : N / w.p = w.f + 4096 * t / w.p := by rw [← hN]; exact div_add_mul (by omega)
  rw [← e1]
  have e2 := Int.emod_add_mul_ediv N (4096 * w.p)
  have e3 : N / w.p = (N % (4096 * w.p)) / w.p + 4096 * (N / (4096 * w.p)) := by
    have : N = (4096 * (N / (4096 * w.p))) * w.p + N % (4096 * w.p) := by
      have e4 : 4096 * w.p * (N / (4096 * w.p)) = 4096 * (N / (4096 * w.p)) * w.p := by grind
      omega
    rw [show N / w.p = ((4096 * (N / (4096 * w.p))) * w.p + N % (4096 * w.p)) / w.p by rw [← this], div_add_mul (by omega)]
    omega
  have hb := angLo_bd hw h0
  unfold angLo angI at hb
  rw [hN] at hb
  omega
theorem angHi_eq {w : Wv} (hw : WvOk w) {t : Int} (h0 : 0 ≤ t) : angHi w t = w.f + clD (4096 * t) w.p - 4096 * ((w.f + 4096 * t / w.p) / 4096) := by
  have hp := hw.p0
  unfold angHi angI clD
  generalize hN : w.f * w.p + 4096 * t = N
  have e1 : N / w.p = w.f + 4096 * t / w.p := by rw [← hN]; exact div_add_mul (by omega)
  have e5 : (N + w.p - 1) / w.p = w.f + (4096 * t + w.p - 1) / w.p := by
    rw [← hN, show w.f * w.p + 4096 * t + w.p - 1 = w.f * w.p + (4096 * t + w.p - 1) by omega]; exact div_add_mul (by omega)
  rw [← e1]
  have e2 := Int.emod_add_mul_ediv N (4096 * w.p)
  have e4 : 4096 * w.p * (N / (4096 * w.p)) = 4096 * (N / (4096 * w.p)) * w.p := by grind
  have e6 : N / w.p / 4096 = N / (4096 * w.p) := by rw [Int.ediv_ediv_of_nonneg (by omega), Int.mul_comm]
  rw [e6]
  have e7 : (N + w.p - 1) / w.p = (N % (4096 * w.p) + w.p - 1) / w.p + 4096 * (N / (4096 * w.p)) := by
    have : N + w.p - 1 = (4096 * (N / (4096 * w.p))) * w.p + (N % (4096 * w.p) + w.p - 1) := by omega
    rw [show (N + w.p - 1) / w.p = ((4096 * (N / (4096 * w.p))) * w.p + (N % (4096 * w.p) + w.p - 1)) / w.p by rw [← this], div_add_mul (by omega)]
    omega
  omega
set_option maxRecDepth 100000 in
set_option maxHeartbeats 1000000 in
theorem refAngle_is (h p f t lo hi : Int) (w : World) (hW : Hid (WvOk ⟨h, p, f⟩)) (t0 : 0 ≤ t) (t1 : t ≤ 2000000) (hlo : Hid (angLo ⟨h, p, f⟩ t = lo)) (hhi : Hid (angHi ⟨h, p, f⟩ t = hi)) :
    Calls Tryz.prog 143 #[.agg #[.int .i64 h, .int .i64 p, .int .i64 f], .int .i64 t] w fun e w' => e = .returned (.agg #[.int .i64 lo, .int .i64 hi]) ∧ Below w.heap.size w w' := by
  obtain ⟨_, _, p0, p1, f0, f1⟩ := hW.out
  dsimp only at p0 p1 f0 f1
  have q1 := angLo_eq hW.out t0
  have q2 := angHi_eq hW.out t0
  rw [hlo.out] at q1
  rw [hhi.out] at q2
  dsimp only at q1 q2
  have bl := angLo_bd hW.out t0
  have bh := angHi_bd hW.out t0
  rw [hlo.out] at bl
  rw [hhi.out] at bh
  obtain ⟨N, hN⟩ : ∃ N, Hid (4096 * t = N) := ⟨_, Lib.hid rfl⟩
  rw [hN.out] at q1 q2
  have N0 : 0 ≤ N := by rw [← hN.out]; omega
  have N1 : N ≤ 10000000000 := by rw [← hN.out]; omega
  have g0 : 0 ≤ N / p := Int.ediv_nonneg N0 (by omega)
  have g1 : N / p ≤ N := Int.ediv_le_self _ N0
  have c0 : 0 ≤ clD N p := Int.ediv_nonneg (by omega) (by omega)
  have c1 : clD N p ≤ N + p - 1 := Int.ediv_le_self _ (by omega)
  obtain ⟨a, ha⟩ : ∃ a, Hid (N / p = a) := ⟨_, Lib.hid rfl⟩
  obtain ⟨b, hb⟩ : ∃ b, Hid (clD N p = b) := ⟨_, Lib.hid rfl⟩
  rw [ha.out] at q1 q2 g0 g1
  rw [hb.out] at q2 c0 c1
  obtain ⟨c, hc⟩ : ∃ c, Hid ((f + a) / 4096 = c) := ⟨_, Lib.hid rfl⟩
  have d0 : 0 ≤ (f + a) / 4096 := by omega
  have d1 : (f + a) / 4096 ≤ f + a := Int.ediv_le_self _ (by omega)
  have q3 : lo = f + a - c * 4096 := by rw [← hc.out]; omega
  rw [hc.out] at q2 d0 d1
  have q4 : hi = f + b - c * 4096 := by omega
  have w1 : IntKind.i64.wrap (4096 * t) = N := by rw [hN.out]; exact IntWalk.i64_in _ (by omega)
  have w2 : IntKind.i64.wrap (f + a) = f + a := IntWalk.i64_in _ (by omega)
  have w3 : IntKind.i64.wrap (f + b) = f + b := IntWalk.i64_in _ (by omega)
  have w4 : IntKind.i64.wrap (c * 4096) = c * 4096 := IntWalk.i64_in _ (by omega)
  have w5 : IntKind.i64.wrap (f + a - c * 4096) = lo := by rw [← q3]; exact IntWalk.i64_in _ (by omega)
  have w6 : IntKind.i64.wrap (f + b - c * 4096) = hi := by rw [← q4]; exact IntWalk.i64_in _ (by omega)
  have F1 := fun w => floor_is N p a w N0 (by omega) (by omega) (by omega) ha
  have F2 := fun w => ceil_is N p b w N0 (by omega) (by omega) (by omega) hb
  have F3 := fun w => floor_is (f + a) 4096 c w (by omega) (by omega) (by omega) (by omega) hc
  have HF1 := Lib.hid F1
  have HF2 := Lib.hid F2
  have HF3 := Lib.hid F3
  have fa0 : 0 ≤ f + a := by omega
  clear q1 q2 q3 q4 F1 F2 F3 hW hlo hhi d1
  go_enter Tryz.func143, Tryz.ntmps143
  go_upto_region 2 with (fail)
  refine wp_region_held_drew (S := (fun w' => w'.cell? ⟨w.heap.size, 1, none⟩ = some (.int .i64 p) ∧ w'.cell? ⟨w.heap.size, 2, none⟩ = some (.int .i64 f))) (by kernel_rfl) (by simp [go_sem, World.cell?_alloc_past, *]) (fun hHeld => ?_)
  refine tkH 0 ⟨some 11, _, _, _, _, _⟩ ?_ rfl ?_ (by assumption) ?_
  rotate_left
  · (intro w hSw; (try dsimp only at hSw); go_simp; all_goals with_reducible rfl)
  try simp only [Act.put, sA, sB, sC]
  refine tkH 1 ⟨some 12, _, _, _, _, _⟩ ?_ rfl ?_ (by assumption) ?_
  rotate_left
  · (intro w hSw; (try dsimp only at hSw); go_simp; all_goals with_reducible rfl)
  try simp only [Act.put, sA, sB, sC]
  refine tkH 2 ⟨some 13, _, _, _, _, _⟩ ?_ rfl ?_ (by assumption) ?_
  rotate_left
  · (intro w hSw; (try dsimp only at hSw); go_simp; all_goals with_reducible rfl)
  try simp only [Act.put, sA, sB, sC]
  refine tkH 3 ⟨some 14, _, _, _, _, _⟩ ?_ rfl ?_ (by assumption) ?_
  rotate_left
  · (intro w hSw; (try dsimp only at hSw); go_simp; all_goals with_reducible rfl)
  try simp only [Act.put, sA, sB, sC]
  refine tkH 4 ⟨some 15, _, _, _, _, _⟩ ?_ rfl ?_ (by assumption) ?_
  rotate_left
  · (intro w hSw; (try dsimp only at hSw); go_simp; all_goals with_reducible rfl)
  try simp only [Act.put, sA, sB, sC]
  refine wpAnyH_ready (rs := [5]) (by kernel_rfl) (by simp) ?_
  refine AllReadyH.cons rfl (fun K hK => ?_) AllReadyH.nil
  go_simp
  refine (HF1.out _).mono ?_
  rintro e w' ⟨rfl, rfl⟩
  go_wp2_with fail
  refine hK.out _ _ (by simp [go_sem, World.cell?_alloc_past, *]) (fun hHeld => ?_)
  clear hK K
  try simp only [Act.put, sA, sB, sC]
  refine tkH 6 ⟨some 17, _, _, _, _, _⟩ ?_ rfl ?_ (by assumption) ?_
  rotate_left
  · (intro w hSw; (try dsimp only at hSw); go_simp; all_goals with_reducible rfl)
  try simp only [Act.put, sA, sB, sC]
  refine tkH 7 ⟨some 6, _, _, _, _, _⟩ ?_ rfl ?_ (by assumption) ?_
  rotate_left
  · (intro w hSw; (try dsimp only at hSw); go_simp; all_goals with_reducible rfl)
  try simp only [Act.put, sA, sB, sC]
  refine wpAnyH_done (by kernel_rfl) ?_ _
  go_upto_region 3 with (fail)
  refine wp_region_held_drew (S := (fun w' => w'.cell? ⟨w.heap.size, 1, none⟩ = some (.int .i64 p) ∧ w'.cell? ⟨w.heap.size, 2, none⟩ = some (.int .i64 f))) (by kernel_rfl) (by simp [go_sem, World.cell?_alloc_past, *]) (fun hHeld => ?_)
  refine tkH 0 ⟨some 18, _, _, _, _, _⟩ ?_ rfl ?_ (by assumption) ?_
  rotate_left
  · (intro w hSw; (try dsimp only at hSw); go_simp; all_goals with_reducible rfl)
  try simp only [Act.put, sA, sB, sC]
  refine tkH 1 ⟨some 19, _, _, _, _, _⟩ ?_ rfl ?_ (by assumption) ?_
  rotate_left
  · (intro w hSw; (try dsimp only at hSw); go_simp; all_goals with_reducible rfl)
  try simp only [Act.put, sA, sB, sC]
  refine tkH 2 ⟨some 20, _, _, _, _, _⟩ ?_ rfl ?_ (by assumption) ?_
  rotate_left
  · (intro w hSw; (try dsimp only at hSw); go_simp; all_goals with_reducible rfl)
  try simp only [Act.put, sA, sB, sC]
  refine tkH 3 ⟨some 21, _, _, _, _, _⟩ ?_ rfl ?_ (by assumption) ?_
  rotate_left
  · (intro w hSw; (try dsimp only at hSw); go_simp; all_goals with_reducible rfl)
  try simp only [Act.put, sA, sB, sC]
  refine tkH 4 ⟨some 22, _, _, _, _, _⟩ ?_ rfl ?_ (by assumption) ?_
  rotate_left
  · (intro w hSw; (try dsimp only at hSw); go_simp; all_goals with_reducible rfl)
  try simp only [Act.put, sA, sB, sC]
  refine wpAnyH_ready (rs := [5]) (by kernel_rfl) (by simp) ?_
  refine AllReadyH.cons rfl (fun K hK => ?_) AllReadyH.nil
  go_simp
  refine (HF2.out _).mono ?_
  rintro e w' ⟨rfl, rfl⟩
  go_wp2_with fail
  refine hK.out _ _ (by simp [go_sem, World.cell?_alloc_past, *]) (fun hHeld => ?_)
  clear hK K
  try simp only [Act.put, sA, sB, sC]
  refine tkH 6 ⟨some 24, _, _, _, _, _⟩ ?_ rfl ?_ (by assumption) ?_
  rotate_left
  · (intro w hSw; (try dsimp only at hSw); go_simp; all_goals with_reducible rfl)
  try simp only [Act.put, sA, sB, sC]
  refine tkH 7 ⟨some 7, _, _, _, _, _⟩ ?_ rfl ?_ (by assumption) ?_
  rotate_left
  · (intro w hSw; (try dsimp only at hSw); go_simp; all_goals with_reducible rfl)
  try simp only [Act.put, sA, sB, sC]
  refine wpAnyH_done (by kernel_rfl) ?_ _
  go_wp2_with fail
  refine (HF3.out _).mono ?_
  rintro e w' ⟨rfl, rfl⟩
  go_wp2
  refine bodyPost_ret (v := .agg #[.int .i64 lo, .int .i64 hi]) (by simp [results, Tryz.results143, go_sem, *]) rfl ⟨rfl, ?_⟩
  (repeat (first | (with_reducible refine Below.drew ?_) | (with_reducible refine below_drewN ?_ _) | (with_reducible refine Below.alloc ?_ (by first | omega | (simp; done) | (simp; omega) | (simp at *; omega)) _) | (with_reducible refine Below.setCell ?_ (by first | omega | (simp; done) | (simp; omega) | (simp at *; omega)) _) | (with_reducible exact Below.refl _ _) | (with_reducible assumption) | (with_reducible refine Below.trans ?_ (Below.mono (by assumption) (by first | omega | (simp; done) | (simp; omega) | (simp at *; omega))))))
/-- The error of AngleAt. -/
def anE (x : Wv) (t : Int) : Int := firE [wvE x, rngE t 0 1000000]
end Go.Proofs.YtojaompfffpofaaGreat
