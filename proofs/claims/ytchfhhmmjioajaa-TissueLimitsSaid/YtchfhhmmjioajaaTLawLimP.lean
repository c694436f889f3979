/- The walk of shotlinelaw03.TissueLimits: too many compartments; a wrong pressure. -/
import Derived.Test.YtchfhhmmjioajaaMKepts
import Derived.Test.YtchfhhmmjioajaaTClone
import Derived.Outline
namespace Go.Proofs.Ytchfhhmmjioajaa
open Go.ChangeShapes Go.WideShapes Go.ChangeAt Go.RowKit
set_option linter.unusedVariables false
set_option linter.unusedSimpArgs false
attribute [local go_sem ↓] Go.wp_at_zero Go.wp_at_succ
set_option maxRecDepth 100000 in
set_option maxHeartbeats 4000000 in
theorem tissueLimits_dark (T : List Cm) (L : List Ld) (A B : Option Addr) (cap cap' : Nat) (fr tz se o hh fi n h b s p f : Int) (w : World) (hl : T.length ≤ 9223372036854775807) (hl' : L.length ≤ 9223372036854775807) (hli : (fewB T.length && decide (L.length ≤ 19)) = false) :
    Calls Try.prog 10 #[.agg #[.slice A T.length cap, .slice B L.length cap', .int .i64 fr, .int .i64 tz, .int .i64 se, .int .i64 o, .int .i64 hh, .int .i64 fi], .agg #[.int .i64 n, .int .i64 h, .int .i64 b, .int .i64 s], .agg #[.int .i64 p, .int .i64 f]] w fun e w' => e = .returned (.bool true) ∧ Below w.heap.size w w' := by
  have HLI := Lib.hid (fun w => light_is T L A B cap cap' fr tz se o hh fi false w hl' (Lib.hid hli))
  clear hli
  go_enter Try.func10, Try.ntmps10
  go_wp2_with fail
  refine (tawake_any _).mono ?_
  rintro e w1 ⟨rfl, hbw1⟩
  have z1 := hbw1.size
  try simp at z1
  have c1_0 : w1.cell? ⟨w.heap.size, 0, none⟩ = some (.slice A T.length cap) := by rw [(bcell hbw1).1 _ _ (by first | (simp; done) | (simp; omega) | omega)]; simp [go_sem, World.cell?_alloc_past, *]
  have c1_1 : w1.cell? ⟨w.heap.size, 1, none⟩ = some (.slice B L.length cap') := by rw [(bcell hbw1).1 _ _ (by first | (simp; done) | (simp; omega) | omega)]; simp [go_sem, World.cell?_alloc_past, *]
  have c1_2 : w1.cell? ⟨w.heap.size, 2, none⟩ = some (.int .i64 fr) := by rw [(bcell hbw1).1 _ _ (by first | (simp; done) | (simp; omega) | omega)]; simp [go_sem, World.cell?_alloc_past, *]
  have c1_3 : w1.cell? ⟨w.heap.size, 3, none⟩ = some (.int .i64 tz) := by rw [(bcell hbw1).1 _ _ (by first | (simp; done) | (simp; omega) | omega)]; simp [go_sem, World.cell?_alloc_past, *]
  have c1_4 : w1.cell? ⟨w.heap.size, 4, none⟩ = some (.int .i64 se) := by rw [(bcell hbw1).1 _ _ (by first | (simp; done) | (simp; omega) | omega)]; simp [go_sem, World.cell?_alloc_past, *]
  have c1_5 : w1.cell? ⟨w.heap.size, 5, none⟩ = some (.int .i64 o) := by rw [(bcell hbw1).1 _ _ (by first | (simp; done) | (simp; omega) | omega)]; simp [go_sem, World.cell?_alloc_past, *]
  have c1_6 : w1.cell? ⟨w.heap.size, 6, none⟩ = some (.int .i64 hh) := by rw [(bcell hbw1).1 _ _ (by first | (simp; done) | (simp; omega) | omega)]; simp [go_sem, World.cell?_alloc_past, *]
  have c1_7 : w1.cell? ⟨w.heap.size, 7, none⟩ = some (.int .i64 fi) := by rw [(bcell hbw1).1 _ _ (by first | (simp; done) | (simp; omega) | omega)]; simp [go_sem, World.cell?_alloc_past, *]
  have c1_8 : w1.cell? ⟨w.heap.size + 1, 0, none⟩ = some (.int .i64 n) := by rw [(bcell hbw1).1 _ _ (by first | (simp; done) | (simp; omega) | omega)]; simp [go_sem, World.cell?_alloc_past, *]
  have c1_9 : w1.cell? ⟨w.heap.size + 1, 1, none⟩ = some (.int .i64 h) := by rw [(bcell hbw1).1 _ _ (by first | (simp; done) | (simp; omega) | omega)]; simp [go_sem, World.cell?_alloc_past, *]
  have c1_10 : w1.cell? ⟨w.heap.size + 1, 2, none⟩ = some (.int .i64 b) := by rw [(bcell hbw1).1 _ _ (by first | (simp; done) | (simp; omega) | omega)]; simp [go_sem, World.cell?_alloc_past, *]
  have c1_11 : w1.cell? ⟨w.heap.size + 1, 3, none⟩ = some (.int .i64 s) := by rw [(bcell hbw1).1 _ _ (by first | (simp; done) | (simp; omega) | omega)]; simp [go_sem, World.cell?_alloc_past, *]
  have c1_12 : w1.cell? ⟨w.heap.size + 2, 0, none⟩ = some (.int .i64 p) := by rw [(bcell hbw1).1 _ _ (by first | (simp; done) | (simp; omega) | omega)]; simp [go_sem, World.cell?_alloc_past, *]
  have c1_13 : w1.cell? ⟨w.heap.size + 2, 1, none⟩ = some (.int .i64 f) := by rw [(bcell hbw1).1 _ _ (by first | (simp; done) | (simp; omega) | omega)]; simp [go_sem, World.cell?_alloc_past, *]
  have hB1 : Below w.heap.size w w1 := (by (repeat (first | (with_reducible refine Below.drew ?_) | (with_reducible refine below_drewN ?_ _) | (with_reducible refine Below.alloc ?_ (by first | omega | (simp; done) | (simp; omega) | (simp at *; omega)) _) | (with_reducible refine Below.setCell ?_ (by first | omega | (simp; done) | (simp; omega) | (simp at *; omega)) _) | (with_reducible exact Below.refl _ _) | (with_reducible assumption) | (with_reducible refine Below.trans ?_ (Below.mono (by assumption) (by first | omega | (simp; done) | (simp; omega) | (simp at *; omega)))))))
  have o1_0 : w.heap.size < w1.heap.size := by omega
  have n1_0 : w1.heap.size ≠ w.heap.size := by omega
  have t1_0_1 : w.heap.size < w1.heap.size + 1 := by omega
  have t1_0_2 : w.heap.size < w1.heap.size + 1 + 1 := by omega
  have t1_0_3 : w.heap.size < w1.heap.size + 1 + 1 + 1 := by omega
  have o1_1 : w.heap.size + 1 < w1.heap.size := by omega
  have n1_1 : w1.heap.size ≠ w.heap.size + 1 := by omega
  have t1_1_1 : w.heap.size + 1 < w1.heap.size + 1 := by omega
  have t1_1_2 : w.heap.size + 1 < w1.heap.size + 1 + 1 := by omega
  have t1_1_3 : w.heap.size + 1 < w1.heap.size + 1 + 1 + 1 := by omega
  have o1_2 : w.heap.size + 2 < w1.heap.size := by omega
  have n1_2 : w1.heap.size ≠ w.heap.size + 2 := by omega
  have t1_2_1 : w.heap.size + 2 < w1.heap.size + 1 := by omega
  have t1_2_2 : w.heap.size + 2 < w1.heap.size + 1 + 1 := by omega
  have t1_2_3 : w.heap.size + 2 < w1.heap.size + 1 + 1 + 1 := by omega
  have b1 : w.heap.size ≤ w1.heap.size := by omega
  clear hbw1
  go_wp2_with fail
  refine (HLI.out _).mono ?_
  rintro e w2 ⟨rfl, hbw2⟩
  have z2 := hbw2.size
  try simp at z2
  have c2_0 : w2.cell? ⟨w.heap.size, 0, none⟩ = some (.slice A T.length cap) := by rw [(bcell hbw2).1 _ _ (by first | (simp; done) | (simp; omega) | omega)]; simp [go_sem, World.cell?_alloc_past, *]
  have c2_1 : w2.cell? ⟨w.heap.size, 1, none⟩ = some (.slice B L.length cap') := by rw [(bcell hbw2).1 _ _ (by first | (simp; done) | (simp; omega) | omega)]; simp [go_sem, World.cell?_alloc_past, *]
  have c2_2 : w2.cell? ⟨w.heap.size, 2, none⟩ = some (.int .i64 fr) := by rw [(bcell hbw2).1 _ _ (by first | (simp; done) | (simp; omega) | omega)]; simp [go_sem, World.cell?_alloc_past, *]
  have c2_3 : w2.cell? ⟨w.heap.size, 3, none⟩ = some (.int .i64 tz) := by rw [(bcell hbw2).1 _ _ (by first | (simp; done) | (simp; omega) | omega)]; simp [go_sem, World.cell?_alloc_past, *]
  have c2_4 : w2.cell? ⟨w.heap.size, 4, none⟩ = some (.int .i64 se) := by rw [(bcell hbw2).1 _ _ (by first | (simp; done) | (simp; omega) | omega)]; simp [go_sem, World.cell?_alloc_past, *]
  have c2_5 : w2.cell? ⟨w.heap.size, 5, none⟩ = some (.int .i64 o) := by rw [(bcell hbw2).1 _ _ (by first | (simp; done) | (simp; omega) | omega)]; simp [go_sem, World.cell?_alloc_past, *]
  have c2_6 : w2.cell? ⟨w.heap.size, 6, none⟩ = some (.int .i64 hh) := by rw [(bcell hbw2).1 _ _ (by first | (simp; done) | (simp; omega) | omega)]; simp [go_sem, World.cell?_alloc_past, *]
  have c2_7 : w2.cell? ⟨w.heap.size, 7, none⟩ = some (.int .i64 fi) := by rw [(bcell hbw2).1 _ _ (by first | (simp; done) | (simp; omega) | omega)]; simp [go_sem, World.cell?_alloc_past, *]
  have c2_8 : w2.cell? ⟨w.heap.size + 1, 0, none⟩ = some (.int .i64 n) := by rw [(bcell hbw2).1 _ _ (by first | (simp; done) | (simp; omega) | omega)]; simp [go_sem, World.cell?_alloc_past, *]
  have c2_9 : w2.cell? ⟨w.heap.size + 1, 1, none⟩ = some (.int .i64 h) := by rw [(bcell hbw2).1 _ _ (by first | (simp; done) | (simp; omega) | omega)]; simp [go_sem, World.cell?_alloc_past, *]
  have c2_10 : w2.cell? ⟨w.heap.size + 1, 2, none⟩ = some (.int .i64 b) := by rw [(bcell hbw2).1 _ _ (by first | (simp; done) | (simp; omega) | omega)]; simp [go_sem, World.cell?_alloc_past, *]
  have c2_11 : w2.cell? ⟨w.heap.size + 1, 3, none⟩ = some (.int .i64 s) := by rw [(bcell hbw2).1 _ _ (by first | (simp; done) | (simp; omega) | omega)]; simp [go_sem, World.cell?_alloc_past, *]
  have c2_12 : w2.cell? ⟨w.heap.size + 2, 0, none⟩ = some (.int .i64 p) := by rw [(bcell hbw2).1 _ _ (by first | (simp; done) | (simp; omega) | omega)]; simp [go_sem, World.cell?_alloc_past, *]
  have c2_13 : w2.cell? ⟨w.heap.size + 2, 1, none⟩ = some (.int .i64 f) := by rw [(bcell hbw2).1 _ _ (by first | (simp; done) | (simp; omega) | omega)]; simp [go_sem, World.cell?_alloc_past, *]
  have hB2 : Below w.heap.size w w2 := (by (repeat (first | (with_reducible refine Below.drew ?_) | (with_reducible refine below_drewN ?_ _) | (with_reducible refine Below.alloc ?_ (by first | omega | (simp; done) | (simp; omega) | (simp at *; omega)) _) | (with_reducible refine Below.setCell ?_ (by first | omega | (simp; done) | (simp; omega) | (simp at *; omega)) _) | (with_reducible exact Below.refl _ _) | (with_reducible assumption) | (with_reducible refine Below.trans ?_ (Below.mono (by assumption) (by first | omega | (simp; done) | (simp; omega) | (simp at *; omega)))))))
  clear c1_0 c1_1 c1_2 c1_3 c1_4 c1_5 c1_6 c1_7 c1_8 c1_9 c1_10 c1_11 c1_12 c1_13 o1_0 n1_0 t1_0_1 t1_0_2 t1_0_3 o1_1 n1_1 t1_1_1 t1_1_2 t1_1_3 o1_2 n1_2 t1_2_1 t1_2_2 t1_2_3
  have o2_0 : w.heap.size < w2.heap.size := by omega
  have n2_0 : w2.heap.size ≠ w.heap.size := by omega
  have t2_0_1 : w.heap.size < w2.heap.size + 1 := by omega
  have t2_0_2 : w.heap.size < w2.heap.size + 1 + 1 := by omega
  have t2_0_3 : w.heap.size < w2.heap.size + 1 + 1 + 1 := by omega
  have o2_1 : w.heap.size + 1 < w2.heap.size := by omega
  have n2_1 : w2.heap.size ≠ w.heap.size + 1 := by omega
  have t2_1_1 : w.heap.size + 1 < w2.heap.size + 1 := by omega
  have t2_1_2 : w.heap.size + 1 < w2.heap.size + 1 + 1 := by omega
  have t2_1_3 : w.heap.size + 1 < w2.heap.size + 1 + 1 + 1 := by omega
  have o2_2 : w.heap.size + 2 < w2.heap.size := by omega
  have n2_2 : w2.heap.size ≠ w.heap.size + 2 := by omega
  have t2_2_1 : w.heap.size + 2 < w2.heap.size + 1 := by omega
  have t2_2_2 : w.heap.size + 2 < w2.heap.size + 1 + 1 := by omega
  have t2_2_3 : w.heap.size + 2 < w2.heap.size + 1 + 1 + 1 := by omega
  have b2 : w.heap.size ≤ w2.heap.size := by omega
  clear hbw2
  go_wp2
  go_ret
  exact ⟨by first | rfl | simp, (by (repeat (first | (with_reducible refine Below.drew ?_) | (with_reducible refine below_drewN ?_ _) | (with_reducible refine Below.alloc ?_ (by first | omega | (simp; done) | (simp; omega) | (simp at *; omega)) _) | (with_reducible refine Below.setCell ?_ (by first | omega | (simp; done) | (simp; omega) | (simp at *; omega)) _) | (with_reducible exact Below.refl _ _) | (with_reducible assumption) | (with_reducible refine Below.trans ?_ (Below.mono (by assumption) (by first | omega | (simp; done) | (simp; omega) | (simp at *; omega)))))))⟩
set_option maxRecDepth 100000 in
set_option maxHeartbeats 4000000 in
theorem tissueLimits_P0 (T : List Cm) (L : List Ld) (A B : Option Addr) (cap cap' : Nat) (fr tz se o hh fi n h b s p f : Int) (w : World) (hl : T.length ≤ 9223372036854775807) (hl' : L.length ≤ 9223372036854775807) (hA : A = none → cap = 0) (hB : B = none → cap' = 0) (HT : Hid (SlCm w A T)) (HL : Hid (SlLd w B L)) (hli : (fewB T.length && decide (L.length ≤ 19)) = true) (hp : inB p 400 31100 = false) (hc : cmpE n h b s = 0) :
    Calls Try.prog 10 #[.agg #[.slice A T.length cap, .slice B L.length cap', .int .i64 fr, .int .i64 tz, .int .i64 se, .int .i64 o, .int .i64 hh, .int .i64 fi], .agg #[.int .i64 n, .int .i64 h, .int .i64 b, .int .i64 s], .agg #[.int .i64 p, .int .i64 f]] w fun e w' => e = .returned (.bool true) ∧ Below w.heap.size w w' := by
  have hlt : T.length ≤ 18 := few_le (by cases h0 : fewB T.length with | true => rfl | false => rw [h0] at hli; simp at hli)
  have hll : L.length ≤ 19 := by cases h0 : fewB T.length with | true => rw [h0] at hli; simpa using hli | false => rw [h0] at hli; simp at hli
  have HLI := Lib.hid (fun w => light_is T L A B cap cap' fr tz se o hh fi true w hl' (Lib.hid hli))
  have HNA := Lib.hid hA
  have HNB := Lib.hid hB
  have HP := Lib.hid (fun w => isPressure_is p false w (Lib.hid hp))
  have HC := Lib.hid (fun w => refCheckComp_is n h b s 0 w (Lib.hid hc))
  have HLA := Lib.hid (fun w => LimitAt_bad n h b s p f 2 w (Lib.hid (limE3_2 (Or.inr (Or.inl hp)))) (by decide))
  obtain ⟨k, hk⟩ : ∃ z, Hid (keptV T L p f = z) := ⟨_, rfl⟩
  obtain ⟨g, hg⟩ : ∃ z, Hid (keptE T L p f = z) := ⟨_, rfl⟩
  obtain ⟨q, hq⟩ : ∃ z, Hid (loadsE T L = z) := ⟨_, rfl⟩
  have HPP := Lib.hid hp
  clear hli hA hB hp hc
  go_enter Try.func10, Try.ntmps10
  go_wp2_with fail
  refine (tawake_any _).mono ?_
  rintro e w1 ⟨rfl, hbw1⟩
  have z1 := hbw1.size
  try simp at z1
  have c1_0 : w1.cell? ⟨w.heap.size, 0, none⟩ = some (.slice A T.length cap) := by rw [(bcell hbw1).1 _ _ (by first | (simp; done) | (simp; omega) | omega)]; simp [go_sem, World.cell?_alloc_past, *]
  have c1_1 : w1.cell? ⟨w.heap.size, 1, none⟩ = some (.slice B L.length cap') := by rw [(bcell hbw1).1 _ _ (by first | (simp; done) | (simp; omega) | omega)]; simp [go_sem, World.cell?_alloc_past, *]
  have c1_2 : w1.cell? ⟨w.heap.size, 2, none⟩ = some (.int .i64 fr) := by rw [(bcell hbw1).1 _ _ (by first | (simp; done) | (simp; omega) | omega)]; simp [go_sem, World.cell?_alloc_past, *]
  have c1_3 : w1.cell? ⟨w.heap.size, 3, none⟩ = some (.int .i64 tz) := by rw [(bcell hbw1).1 _ _ (by first | (simp; done) | (simp; omega) | omega)]; simp [go_sem, World.cell?_alloc_past, *]
  have c1_4 : w1.cell? ⟨w.heap.size, 4, none⟩ = some (.int .i64 se) := by rw [(bcell hbw1).1 _ _ (by first | (simp; done) | (simp; omega) | omega)]; simp [go_sem, World.cell?_alloc_past, *]
  have c1_5 : w1.cell? ⟨w.heap.size, 5, none⟩ = some (.int .i64 o) := by rw [(bcell hbw1).1 _ _ (by first | (simp; done) | (simp; omega) | omega)]; simp [go_sem, World.cell?_alloc_past, *]
  have c1_6 : w1.cell? ⟨w.heap.size, 6, none⟩ = some (.int .i64 hh) := by rw [(bcell hbw1).1 _ _ (by first | (simp; done) | (simp; omega) | omega)]; simp [go_sem, World.cell?_alloc_past, *]
  have c1_7 : w1.cell? ⟨w.heap.size, 7, none⟩ = some (.int .i64 fi) := by rw [(bcell hbw1).1 _ _ (by first | (simp; done) | (simp; omega) | omega)]; simp [go_sem, World.cell?_alloc_past, *]
  have c1_8 : w1.cell? ⟨w.heap.size + 1, 0, none⟩ = some (.int .i64 n) := by rw [(bcell hbw1).1 _ _ (by first | (simp; done) | (simp; omega) | omega)]; simp [go_sem, World.cell?_alloc_past, *]
  have c1_9 : w1.cell? ⟨w.heap.size + 1, 1, none⟩ = some (.int .i64 h) := by rw [(bcell hbw1).1 _ _ (by first | (simp; done) | (simp; omega) | omega)]; simp [go_sem, World.cell?_alloc_past, *]
  have c1_10 : w1.cell? ⟨w.heap.size + 1, 2, none⟩ = some (.int .i64 b) := by rw [(bcell hbw1).1 _ _ (by first | (simp; done) | (simp; omega) | omega)]; simp [go_sem, World.cell?_alloc_past, *]
  have c1_11 : w1.cell? ⟨w.heap.size + 1, 3, none⟩ = some (.int .i64 s) := by rw [(bcell hbw1).1 _ _ (by first | (simp; done) | (simp; omega) | omega)]; simp [go_sem, World.cell?_alloc_past, *]
  have c1_12 : w1.cell? ⟨w.heap.size + 2, 0, none⟩ = some (.int .i64 p) := by rw [(bcell hbw1).1 _ _ (by first | (simp; done) | (simp; omega) | omega)]; simp [go_sem, World.cell?_alloc_past, *]
  have c1_13 : w1.cell? ⟨w.heap.size + 2, 1, none⟩ = some (.int .i64 f) := by rw [(bcell hbw1).1 _ _ (by first | (simp; done) | (simp; omega) | omega)]; simp [go_sem, World.cell?_alloc_past, *]
  have hB1 : Below w.heap.size w w1 := (by (repeat (first | (with_reducible refine Below.drew ?_) | (with_reducible refine below_drewN ?_ _) | (with_reducible refine Below.alloc ?_ (by first | omega | (simp; done) | (simp; omega) | (simp at *; omega)) _) | (with_reducible refine Below.setCell ?_ (by first | omega | (simp; done) | (simp; omega) | (simp at *; omega)) _) | (with_reducible exact Below.refl _ _) | (with_reducible assumption) | (with_reducible refine Below.trans ?_ (Below.mono (by assumption) (by first | omega | (simp; done) | (simp; omega) | (simp at *; omega)))))))
  have o1_0 : w.heap.size < w1.heap.size := by omega
  have n1_0 : w1.heap.size ≠ w.heap.size := by omega
  have t1_0_1 : w.heap.size < w1.heap.size + 1 := by omega
  have t1_0_2 : w.heap.size < w1.heap.size + 1 + 1 := by omega
  have t1_0_3 : w.heap.size < w1.heap.size + 1 + 1 + 1 := by omega
  have o1_1 : w.heap.size + 1 < w1.heap.size := by omega
  have n1_1 : w1.heap.size ≠ w.heap.size + 1 := by omega
  have t1_1_1 : w.heap.size + 1 < w1.heap.size + 1 := by omega
  have t1_1_2 : w.heap.size + 1 < w1.heap.size + 1 + 1 := by omega
  have t1_1_3 : w.heap.size + 1 < w1.heap.size + 1 + 1 + 1 := by omega
  have o1_2 : w.heap.size + 2 < w1.heap.size := by omega
  have n1_2 : w1.heap.size ≠ w.heap.size + 2 := by omega
  have t1_2_1 : w.heap.size + 2 < w1.heap.size + 1 := by omega
  have t1_2_2 : w.heap.size + 2 < w1.heap.size + 1 + 1 := by omega
  have t1_2_3 : w.heap.size + 2 < w1.heap.size + 1 + 1 + 1 := by omega
  have b1 : w.heap.size ≤ w1.heap.size := by omega
  clear hbw1
  go_wp2_with fail
  refine (HLI.out _).mono ?_
  rintro e w2 ⟨rfl, hbw2⟩
  have z2 := hbw2.size
  try simp at z2
  have c2_0 : w2.cell? ⟨w.heap.size, 0, none⟩ = some (.slice A T.length cap) := by rw [(bcell hbw2).1 _ _ (by first | (simp; done) | (simp; omega) | omega)]; simp [go_sem, World.cell?_alloc_past, *]
  have c2_1 : w2.cell? ⟨w.heap.size, 1, none⟩ = some (.slice B L.length cap') := by rw [(bcell hbw2).1 _ _ (by first | (simp; done) | (simp; omega) | omega)]; simp [go_sem, World.cell?_alloc_past, *]
  have c2_2 : w2.cell? ⟨w.heap.size, 2, none⟩ = some (.int .i64 fr) := by rw [(bcell hbw2).1 _ _ (by first | (simp; done) | (simp; omega) | omega)]; simp [go_sem, World.cell?_alloc_past, *]
  have c2_3 : w2.cell? ⟨w.heap.size, 3, none⟩ = some (.int .i64 tz) := by rw [(bcell hbw2).1 _ _ (by first | (simp; done) | (simp; omega) | omega)]; simp [go_sem, World.cell?_alloc_past, *]
  have c2_4 : w2.cell? ⟨w.heap.size, 4, none⟩ = some (.int .i64 se) := by rw [(bcell hbw2).1 _ _ (by first | (simp; done) | (simp; omega) | omega)]; simp [go_sem, World.cell?_alloc_past, *]
  have c2_5 : w2.cell? ⟨w.heap.size, 5, none⟩ = some (.int .i64 o) := by rw [(bcell hbw2).1 _ _ (by first | (simp; done) | (simp; omega) | omega)]; simp [go_sem, World.cell?_alloc_past, *]
  have c2_6 : w2.cell? ⟨w.heap.size, 6, none⟩ = some (.int .i64 hh) := by rw [(bcell hbw2).1 _ _ (by first | (simp; done) | (simp; omega) | omega)]; simp [go_sem, World.cell?_alloc_past, *]
  have c2_7 : w2.cell? ⟨w.heap.size, 7, none⟩ = some (.int .i64 fi) := by rw [(bcell hbw2).1 _ _ (by first | (simp; done) | (simp; omega) | omega)]; simp [go_sem, World.cell?_alloc_past, *]
  have c2_8 : w2.cell? ⟨w.heap.size + 1, 0, none⟩ = some (.int .i64 n) := by rw [(bcell hbw2).1 _ _ (by first | (simp; done) | (simp; omega) | omega)]; simp [go_sem, World.cell?_alloc_past, *]
  have c2_9 : w2.cell? ⟨w.heap.size + 1, 1, none⟩ = some (.int .i64 h) := by rw [(bcell hbw2).1 _ _ (by first | (simp; done) | (simp; omega) | omega)]; simp [go_sem, World.cell?_alloc_past, *]
  have c2_10 : w2.cell? ⟨w.heap.size + 1, 2, none⟩ = some (.int .i64 b) := by rw [(bcell hbw2).1 _ _ (by first | (simp; done) | (simp; omega) | omega)]; simp [go_sem, World.cell?_alloc_past, *]
  have c2_11 : w2.cell? ⟨w.heap.size + 1, 3, none⟩ = some (.int .i64 s) := by rw [(bcell hbw2).1 _ _ (by first | (simp; done) | (simp; omega) | omega)]; simp [go_sem, World.cell?_alloc_past, *]
  have c2_12 : w2.cell? ⟨w.heap.size + 2, 0, none⟩ = some (.int .i64 p) := by rw [(bcell hbw2).1 _ _ (by first | (simp; done) | (simp; omega) | omega)]; simp [go_sem, World.cell?_alloc_past, *]
  have c2_13 : w2.cell? ⟨w.heap.size + 2, 1, none⟩ = some (.int .i64 f) := by rw [(bcell hbw2).1 _ _ (by first | (simp; done) | (simp; omega) | omega)]; simp [go_sem, World.cell?_alloc_past, *]
  have hB2 : Below w.heap.size w w2 := (by (repeat (first | (with_reducible refine Below.drew ?_) | (with_reducible refine below_drewN ?_ _) | (with_reducible refine Below.alloc ?_ (by first | omega | (simp; done) | (simp; omega) | (simp at *; omega)) _) | (with_reducible refine Below.setCell ?_ (by first | omega | (simp; done) | (simp; omega) | (simp at *; omega)) _) | (with_reducible exact Below.refl _ _) | (with_reducible assumption) | (with_reducible refine Below.trans ?_ (Below.mono (by assumption) (by first | omega | (simp; done) | (simp; omega) | (simp at *; omega)))))))
  clear c1_0 c1_1 c1_2 c1_3 c1_4 c1_5 c1_6 c1_7 c1_8 c1_9 c1_10 c1_11 c1_12 c1_13 o1_0 n1_0 t1_0_1 t1_0_2 t1_0_3 o1_1 n1_1 t1_1_1 t1_1_2 t1_1_3 o1_2 n1_2 t1_2_1 t1_2_2 t1_2_3
  have o2_0 : w.heap.size < w2.heap.size := by omega
  have n2_0 : w2.heap.size ≠ w.heap.size := by omega
  have t2_0_1 : w.heap.size < w2.heap.size + 1 := by omega
  have t2_0_2 : w.heap.size < w2.heap.size + 1 + 1 := by omega
  have t2_0_3 : w.heap.size < w2.heap.size + 1 + 1 + 1 := by omega
  have o2_1 : w.heap.size + 1 < w2.heap.size := by omega
  have n2_1 : w2.heap.size ≠ w.heap.size + 1 := by omega
  have t2_1_1 : w.heap.size + 1 < w2.heap.size + 1 := by omega
  have t2_1_2 : w.heap.size + 1 < w2.heap.size + 1 + 1 := by omega
  have t2_1_3 : w.heap.size + 1 < w2.heap.size + 1 + 1 + 1 := by omega
  have o2_2 : w.heap.size + 2 < w2.heap.size := by omega
  have n2_2 : w2.heap.size ≠ w.heap.size + 2 := by omega
  have t2_2_1 : w.heap.size + 2 < w2.heap.size + 1 := by omega
  have t2_2_2 : w.heap.size + 2 < w2.heap.size + 1 + 1 := by omega
  have t2_2_3 : w.heap.size + 2 < w2.heap.size + 1 + 1 + 1 := by omega
  have b2 : w.heap.size ≤ w2.heap.size := by omega
  clear hbw2
  go_wp2_with fail
  refine (HLA.out _).mono ?_
  rintro e w3 ⟨rfl, hbw3⟩
  have z3 := hbw3.size
  try simp at z3
  have c3_0 : w3.cell? ⟨w.heap.size, 0, none⟩ = some (.slice A T.length cap) := by rw [(bcell hbw3).1 _ _ (by first | (simp; done) | (simp; omega) | omega)]; simp [go_sem, World.cell?_alloc_past, *]
  have c3_1 : w3.cell? ⟨w.heap.size, 1, none⟩ = some (.slice B L.length cap') := by rw [(bcell hbw3).1 _ _ (by first | (simp; done) | (simp; omega) | omega)]; simp [go_sem, World.cell?_alloc_past, *]
  have c3_2 : w3.cell? ⟨w.heap.size, 2, none⟩ = some (.int .i64 fr) := by rw [(bcell hbw3).1 _ _ (by first | (simp; done) | (simp; omega) | omega)]; simp [go_sem, World.cell?_alloc_past, *]
  have c3_3 : w3.cell? ⟨w.heap.size, 3, none⟩ = some (.int .i64 tz) := by rw [(bcell hbw3).1 _ _ (by first | (simp; done) | (simp; omega) | omega)]; simp [go_sem, World.cell?_alloc_past, *]
  have c3_4 : w3.cell? ⟨w.heap.size, 4, none⟩ = some (.int .i64 se) := by rw [(bcell hbw3).1 _ _ (by first | (simp; done) | (simp; omega) | omega)]; simp [go_sem, World.cell?_alloc_past, *]
  have c3_5 : w3.cell? ⟨w.heap.size, 5, none⟩ = some (.int .i64 o) := by rw [(bcell hbw3).1 _ _ (by first | (simp; done) | (simp; omega) | omega)]; simp [go_sem, World.cell?_alloc_past, *]
  have c3_6 : w3.cell? ⟨w.heap.size, 6, none⟩ = some (.int .i64 hh) := by rw [(bcell hbw3).1 _ _ (by first | (simp; done) | (simp; omega) | omega)]; simp [go_sem, World.cell?_alloc_past, *]
  have c3_7 : w3.cell? ⟨w.heap.size, 7, none⟩ = some (.int .i64 fi) := by rw [(bcell hbw3).1 _ _ (by first | (simp; done) | (simp; omega) | omega)]; simp [go_sem, World.cell?_alloc_past, *]
  have c3_8 : w3.cell? ⟨w.heap.size + 1, 0, none⟩ = some (.int .i64 n) := by rw [(bcell hbw3).1 _ _ (by first | (simp; done) | (simp; omega) | omega)]; simp [go_sem, World.cell?_alloc_past, *]
  have c3_9 : w3.cell? ⟨w.heap.size + 1, 1, none⟩ = some (.int .i64 h) := by rw [(bcell hbw3).1 _ _ (by first | (simp; done) | (simp; omega) | omega)]; simp [go_sem, World.cell?_alloc_past, *]
  have c3_10 : w3.cell? ⟨w.heap.size + 1, 2, none⟩ = some (.int .i64 b) := by rw [(bcell hbw3).1 _ _ (by first | (simp; done) | (simp; omega) | omega)]; simp [go_sem, World.cell?_alloc_past, *]
  have c3_11 : w3.cell? ⟨w.heap.size + 1, 3, none⟩ = some (.int .i64 s) := by rw [(bcell hbw3).1 _ _ (by first | (simp; done) | (simp; omega) | omega)]; simp [go_sem, World.cell?_alloc_past, *]
  have c3_12 : w3.cell? ⟨w.heap.size + 2, 0, none⟩ = some (.int .i64 p) := by rw [(bcell hbw3).1 _ _ (by first | (simp; done) | (simp; omega) | omega)]; simp [go_sem, World.cell?_alloc_past, *]
  have c3_13 : w3.cell? ⟨w.heap.size + 2, 1, none⟩ = some (.int .i64 f) := by rw [(bcell hbw3).1 _ _ (by first | (simp; done) | (simp; omega) | omega)]; simp [go_sem, World.cell?_alloc_past, *]
  have hB3 : Below w.heap.size w w3 := (by (repeat (first | (with_reducible refine Below.drew ?_) | (with_reducible refine below_drewN ?_ _) | (with_reducible refine Below.alloc ?_ (by first | omega | (simp; done) | (simp; omega) | (simp at *; omega)) _) | (with_reducible refine Below.setCell ?_ (by first | omega | (simp; done) | (simp; omega) | (simp at *; omega)) _) | (with_reducible exact Below.refl _ _) | (with_reducible assumption) | (with_reducible refine Below.trans ?_ (Below.mono (by assumption) (by first | omega | (simp; done) | (simp; omega) | (simp at *; omega)))))))
  clear c2_0 c2_1 c2_2 c2_3 c2_4 c2_5 c2_6 c2_7 c2_8 c2_9 c2_10 c2_11 c2_12 c2_13 o2_0 n2_0 t2_0_1 t2_0_2 t2_0_3 o2_1 n2_1 t2_1_1 t2_1_2 t2_1_3 o2_2 n2_2 t2_2_1 t2_2_2 t2_2_3
  have o3_0 : w.heap.size < w3.heap.size := by omega
  have n3_0 : w3.heap.size ≠ w.heap.size := by omega
  have t3_0_1 : w.heap.size < w3.heap.size + 1 := by omega
  have t3_0_2 : w.heap.size < w3.heap.size + 1 + 1 := by omega
  have t3_0_3 : w.heap.size < w3.heap.size + 1 + 1 + 1 := by omega
  have o3_1 : w.heap.size + 1 < w3.heap.size := by omega
  have n3_1 : w3.heap.size ≠ w.heap.size + 1 := by omega
  have t3_1_1 : w.heap.size + 1 < w3.heap.size + 1 := by omega
  have t3_1_2 : w.heap.size + 1 < w3.heap.size + 1 + 1 := by omega
  have t3_1_3 : w.heap.size + 1 < w3.heap.size + 1 + 1 + 1 := by omega
  have o3_2 : w.heap.size + 2 < w3.heap.size := by omega
  have n3_2 : w3.heap.size ≠ w.heap.size + 2 := by omega
  have t3_2_1 : w.heap.size + 2 < w3.heap.size + 1 := by omega
  have t3_2_2 : w.heap.size + 2 < w3.heap.size + 1 + 1 := by omega
  have t3_2_3 : w.heap.size + 2 < w3.heap.size + 1 + 1 + 1 := by omega
  have b3 : w.heap.size ≤ w3.heap.size := by omega
  clear hbw3
  go_upto_region 6 with (fail)
  refine wp_region_held_drew (S := (fun w' => w'.cell? ⟨w.heap.size, 0, none⟩ = some (.slice A T.length cap) ∧ w'.cell? ⟨w.heap.size, 1, none⟩ = some (.slice B L.length cap') ∧ w'.cell? ⟨w.heap.size + 2, 0, none⟩ = some (.int .i64 p) ∧ w'.cell? ⟨w.heap.size + 2, 1, none⟩ = some (.int .i64 f))) (by kernel_rfl) (by simp [go_sem, World.cell?_alloc_past, *]) (fun hHeld => ?_)
  refine wpAnyH_take (i := 0) (oi := ⟨some 28, _, _, _, _, _⟩) (v := ?_) rfl (by kernel_rfl) (by kernel_rfl) (by kernel_rfl) (fun _ _ _ h => h) (Or.inl ⟨by kernel_rfl, ?_⟩) (by assumption) ?_
  rotate_left
  · (intro w hSw; (try dsimp only at hSw); go_simp; all_goals with_reducible rfl)
  try simp only [Act.put, List.setIfInBounds_toArray, List.set_cons_zero, List.set_cons_succ]
  refine wpAnyH_take (i := 1) (oi := ⟨some 29, _, _, _, _, _⟩) (v := ?_) rfl (by kernel_rfl) (by kernel_rfl) (by kernel_rfl) (fun _ _ _ h => h) (Or.inl ⟨by kernel_rfl, ?_⟩) (by assumption) ?_
  rotate_left
  · (intro w hSw; (try dsimp only at hSw); go_simp; all_goals with_reducible rfl)
  try simp only [Act.put, List.setIfInBounds_toArray, List.set_cons_zero, List.set_cons_succ]
  refine wpAnyH_take (i := 3) (oi := ⟨some 31, _, _, _, _, _⟩) (v := ?_) rfl (by kernel_rfl) (by kernel_rfl) (by kernel_rfl) (fun _ _ _ h => h) (Or.inl ⟨by kernel_rfl, ?_⟩) (by assumption) ?_
  rotate_left
  · (intro w hSw; (try dsimp only at hSw); go_simp; all_goals with_reducible rfl)
  try simp only [Act.put, List.setIfInBounds_toArray, List.set_cons_zero, List.set_cons_succ]
  refine wpAnyH_take (i := 4) (oi := ⟨some 32, _, _, _, _, _⟩) (v := ?_) rfl (by kernel_rfl) (by kernel_rfl) (by kernel_rfl) (fun _ _ _ h => h) (Or.inl ⟨by kernel_rfl, ?_⟩) (by assumption) ?_
  rotate_left
  · (intro w hSw; (try dsimp only at hSw); go_simp; all_goals with_reducible rfl)
  try simp only [Act.put, List.setIfInBounds_toArray, List.set_cons_zero, List.set_cons_succ]
  refine wpAnyH_take (i := 6) (oi := ⟨some 34, _, _, _, _, _⟩) (v := ?_) rfl (by kernel_rfl) (by kernel_rfl) (by kernel_rfl) (fun _ _ _ h => h) (Or.inl ⟨by kernel_rfl, ?_⟩) (by assumption) ?_
  rotate_left
  · (intro w hSw; (try dsimp only at hSw); go_simp; all_goals with_reducible rfl)
  try simp only [Act.put, List.setIfInBounds_toArray, List.set_cons_zero, List.set_cons_succ]
  refine wpAnyH_ready (rs := [2]) (by kernel_rfl) (by simp) ?_
  refine AllReadyH.cons rfl (fun K hK => ?_) AllReadyH.nil
  go_simp
  refine (lawTable_any T A cap _ (by omega) HNA.out (HT.out.below (by exact (by (repeat (first | (with_reducible refine Below.drew ?_) | (with_reducible refine below_drewN ?_ _) | (with_reducible refine Below.alloc ?_ (by first | omega | (simp; done) | (simp; omega) | (simp at *; omega)) _) | (with_reducible refine Below.setCell ?_ (by first | omega | (simp; done) | (simp; omega) | (simp at *; omega)) _) | (with_reducible exact Below.refl _ _) | (with_reducible assumption) | (with_reducible refine Below.trans ?_ (Below.mono (by assumption) (by first | omega | (simp; done) | (simp; omega) | (simp at *; omega)))))))))).mono ?_
  rintro e x1 ⟨A2, cap2, rfl, hS2, _, hb1⟩
  have zx1 := hb1.size
  try simp at zx1
  have m0 : x1.cell? ⟨w.heap.size, 0, none⟩ = some (.slice A T.length cap) := (by rw [(bcell hb1).1 _ _ (by first | (simp; done) | (simp; omega) | omega)]; simp [go_sem, World.cell?_alloc_past, *])
  have m1 : x1.cell? ⟨w.heap.size, 1, none⟩ = some (.slice B L.length cap') := (by rw [(bcell hb1).1 _ _ (by first | (simp; done) | (simp; omega) | omega)]; simp [go_sem, World.cell?_alloc_past, *])
  have m2 : x1.cell? ⟨w.heap.size, 2, none⟩ = some (.int .i64 fr) := (by rw [(bcell hb1).1 _ _ (by first | (simp; done) | (simp; omega) | omega)]; simp [go_sem, World.cell?_alloc_past, *])
  have m3 : x1.cell? ⟨w.heap.size, 3, none⟩ = some (.int .i64 tz) := (by rw [(bcell hb1).1 _ _ (by first | (simp; done) | (simp; omega) | omega)]; simp [go_sem, World.cell?_alloc_past, *])
  have m4 : x1.cell? ⟨w.heap.size, 4, none⟩ = some (.int .i64 se) := (by rw [(bcell hb1).1 _ _ (by first | (simp; done) | (simp; omega) | omega)]; simp [go_sem, World.cell?_alloc_past, *])
  have m5 : x1.cell? ⟨w.heap.size, 5, none⟩ = some (.int .i64 o) := (by rw [(bcell hb1).1 _ _ (by first | (simp; done) | (simp; omega) | omega)]; simp [go_sem, World.cell?_alloc_past, *])
  have m6 : x1.cell? ⟨w.heap.size, 6, none⟩ = some (.int .i64 hh) := (by rw [(bcell hb1).1 _ _ (by first | (simp; done) | (simp; omega) | omega)]; simp [go_sem, World.cell?_alloc_past, *])
  have m7 : x1.cell? ⟨w.heap.size, 7, none⟩ = some (.int .i64 fi) := (by rw [(bcell hb1).1 _ _ (by first | (simp; done) | (simp; omega) | omega)]; simp [go_sem, World.cell?_alloc_past, *])
  have m8 : x1.cell? ⟨w.heap.size + 1, 0, none⟩ = some (.int .i64 n) := (by rw [(bcell hb1).1 _ _ (by first | (simp; done) | (simp; omega) | omega)]; simp [go_sem, World.cell?_alloc_past, *])
  have m9 : x1.cell? ⟨w.heap.size + 1, 1, none⟩ = some (.int .i64 h) := (by rw [(bcell hb1).1 _ _ (by first | (simp; done) | (simp; omega) | omega)]; simp [go_sem, World.cell?_alloc_past, *])
  have m10 : x1.cell? ⟨w.heap.size + 1, 2, none⟩ = some (.int .i64 b) := (by rw [(bcell hb1).1 _ _ (by first | (simp; done) | (simp; omega) | omega)]; simp [go_sem, World.cell?_alloc_past, *])
  have m11 : x1.cell? ⟨w.heap.size + 1, 3, none⟩ = some (.int .i64 s) := (by rw [(bcell hb1).1 _ _ (by first | (simp; done) | (simp; omega) | omega)]; simp [go_sem, World.cell?_alloc_past, *])
  have m12 : x1.cell? ⟨w.heap.size + 2, 0, none⟩ = some (.int .i64 p) := (by rw [(bcell hb1).1 _ _ (by first | (simp; done) | (simp; omega) | omega)]; simp [go_sem, World.cell?_alloc_past, *])
  have m13 : x1.cell? ⟨w.heap.size + 2, 1, none⟩ = some (.int .i64 f) := (by rw [(bcell hb1).1 _ _ (by first | (simp; done) | (simp; omega) | omega)]; simp [go_sem, World.cell?_alloc_past, *])
  have m14 : x1.cell? ⟨w3.heap.size, 0, none⟩ = some (.int .i64 0) := (by rw [(bcell hb1).1 _ _ (by first | (simp; done) | (simp; omega) | omega)]; simp [go_sem, World.cell?_alloc_past, *])
  have m15 : x1.cell? ⟨w3.heap.size, 1, none⟩ = some (.int .i64 0) := (by rw [(bcell hb1).1 _ _ (by first | (simp; done) | (simp; omega) | omega)]; simp [go_sem, World.cell?_alloc_past, *])
  have HS2 := Lib.hid hS2
  have hX1 : Below w.heap.size w x1 := (by (repeat (first | (with_reducible refine Below.drew ?_) | (with_reducible refine below_drewN ?_ _) | (with_reducible refine Below.alloc ?_ (by first | omega | (simp; done) | (simp; omega) | (simp at *; omega)) _) | (with_reducible refine Below.setCell ?_ (by first | omega | (simp; done) | (simp; omega) | (simp at *; omega)) _) | (with_reducible exact Below.refl _ _) | (with_reducible assumption) | (with_reducible refine Below.trans ?_ (Below.mono (by assumption) (by first | omega | (simp; done) | (simp; omega) | (simp at *; omega)))))))
  have zz1 := hX1.size
  clear hS2 hb1
  have mo0 : w.heap.size < x1.heap.size := by omega
  have mn0 : x1.heap.size ≠ w.heap.size := by omega
  have mo1 : w.heap.size + 1 < x1.heap.size := by omega
  have mn1 : x1.heap.size ≠ w.heap.size + 1 := by omega
  have mo2 : w.heap.size + 2 < x1.heap.size := by omega
  have mn2 : x1.heap.size ≠ w.heap.size + 2 := by omega
  have mo3 : w3.heap.size < x1.heap.size := by omega
  have mn3 : x1.heap.size ≠ w3.heap.size := by omega
  go_wp2_with fail
  refine hK.out _ _ (by simp [go_sem, World.cell?_alloc_past, *]) (fun hHeld => ?_)
  clear hK K
  try simp only [Act.put, List.setIfInBounds_toArray, List.set_cons_zero, List.set_cons_succ]
  refine wpAnyH_ready (rs := [5]) (by kernel_rfl) (by simp) ?_
  refine AllReadyH.cons rfl (fun K hK => ?_) AllReadyH.nil
  go_simp
  refine (lawLoads_any L B cap' _ (by omega) HNB.out (HL.out.below (by exact (by (repeat (first | (with_reducible refine Below.drew ?_) | (with_reducible refine below_drewN ?_ _) | (with_reducible refine Below.alloc ?_ (by first | omega | (simp; done) | (simp; omega) | (simp at *; omega)) _) | (with_reducible refine Below.setCell ?_ (by first | omega | (simp; done) | (simp; omega) | (simp at *; omega)) _) | (with_reducible exact Below.refl _ _) | (with_reducible assumption) | (with_reducible refine Below.trans ?_ (Below.mono (by assumption) (by first | omega | (simp; done) | (simp; omega) | (simp at *; omega)))))))))).mono ?_
  rintro e x2 ⟨A3, cap3, rfl, hS3, _, hb2⟩
  have zx2 := hb2.size
  try simp at zx2
  have k0 : x2.cell? ⟨w.heap.size, 0, none⟩ = some (.slice A T.length cap) := (by rw [(bcell hb2).1 _ _ (by first | (simp; done) | (simp; omega) | omega)]; simp [go_sem, World.cell?_alloc_past, *])
  have k1 : x2.cell? ⟨w.heap.size, 1, none⟩ = some (.slice B L.length cap') := (by rw [(bcell hb2).1 _ _ (by first | (simp; done) | (simp; omega) | omega)]; simp [go_sem, World.cell?_alloc_past, *])
  have k2 : x2.cell? ⟨w.heap.size, 2, none⟩ = some (.int .i64 fr) := (by rw [(bcell hb2).1 _ _ (by first | (simp; done) | (simp; omega) | omega)]; simp [go_sem, World.cell?_alloc_past, *])
  have k3 : x2.cell? ⟨w.heap.size, 3, none⟩ = some (.int .i64 tz) := (by rw [(bcell hb2).1 _ _ (by first | (simp; done) | (simp; omega) | omega)]; simp [go_sem, World.cell?_alloc_past, *])
  have k4 : x2.cell? ⟨w.heap.size, 4, none⟩ = some (.int .i64 se) := (by rw [(bcell hb2).1 _ _ (by first | (simp; done) | (simp; omega) | omega)]; simp [go_sem, World.cell?_alloc_past, *])
  have k5 : x2.cell? ⟨w.heap.size, 5, none⟩ = some (.int .i64 o) := (by rw [(bcell hb2).1 _ _ (by first | (simp; done) | (simp; omega) | omega)]; simp [go_sem, World.cell?_alloc_past, *])
  have k6 : x2.cell? ⟨w.heap.size, 6, none⟩ = some (.int .i64 hh) := (by rw [(bcell hb2).1 _ _ (by first | (simp; done) | (simp; omega) | omega)]; simp [go_sem, World.cell?_alloc_past, *])
  have k7 : x2.cell? ⟨w.heap.size, 7, none⟩ = some (.int .i64 fi) := (by rw [(bcell hb2).1 _ _ (by first | (simp; done) | (simp; omega) | omega)]; simp [go_sem, World.cell?_alloc_past, *])
  have k8 : x2.cell? ⟨w.heap.size + 1, 0, none⟩ = some (.int .i64 n) := (by rw [(bcell hb2).1 _ _ (by first | (simp; done) | (simp; omega) | omega)]; simp [go_sem, World.cell?_alloc_past, *])
  have k9 : x2.cell? ⟨w.heap.size + 1, 1, none⟩ = some (.int .i64 h) := (by rw [(bcell hb2).1 _ _ (by first | (simp; done) | (simp; omega) | omega)]; simp [go_sem, World.cell?_alloc_past, *])
  have k10 : x2.cell? ⟨w.heap.size + 1, 2, none⟩ = some (.int .i64 b) := (by rw [(bcell hb2).1 _ _ (by first | (simp; done) | (simp; omega) | omega)]; simp [go_sem, World.cell?_alloc_past, *])
  have k11 : x2.cell? ⟨w.heap.size + 1, 3, none⟩ = some (.int .i64 s) := (by rw [(bcell hb2).1 _ _ (by first | (simp; done) | (simp; omega) | omega)]; simp [go_sem, World.cell?_alloc_past, *])
  have k12 : x2.cell? ⟨w.heap.size + 2, 0, none⟩ = some (.int .i64 p) := (by rw [(bcell hb2).1 _ _ (by first | (simp; done) | (simp; omega) | omega)]; simp [go_sem, World.cell?_alloc_past, *])
  have k13 : x2.cell? ⟨w.heap.size + 2, 1, none⟩ = some (.int .i64 f) := (by rw [(bcell hb2).1 _ _ (by first | (simp; done) | (simp; omega) | omega)]; simp [go_sem, World.cell?_alloc_past, *])
  have k14 : x2.cell? ⟨w3.heap.size, 0, none⟩ = some (.int .i64 0) := (by rw [(bcell hb2).1 _ _ (by first | (simp; done) | (simp; omega) | omega)]; simp [go_sem, World.cell?_alloc_past, *])
  have k15 : x2.cell? ⟨w3.heap.size, 1, none⟩ = some (.int .i64 0) := (by rw [(bcell hb2).1 _ _ (by first | (simp; done) | (simp; omega) | omega)]; simp [go_sem, World.cell?_alloc_past, *])
  have HS3 := Lib.hid hS3
  have HS4 := Lib.hid (HS2.out.below hb2)
  have hX2 : Below w.heap.size w x2 := (by (repeat (first | (with_reducible refine Below.drew ?_) | (with_reducible refine below_drewN ?_ _) | (with_reducible refine Below.alloc ?_ (by first | omega | (simp; done) | (simp; omega) | (simp at *; omega)) _) | (with_reducible refine Below.setCell ?_ (by first | omega | (simp; done) | (simp; omega) | (simp at *; omega)) _) | (with_reducible exact Below.refl _ _) | (with_reducible assumption) | (with_reducible refine Below.trans ?_ (Below.mono (by assumption) (by first | omega | (simp; done) | (simp; omega) | (simp at *; omega)))))))
  have zz2 := hX2.size
  clear hS3 hb2 HS2 hX1 m0 m1 m2 m3 m4 m5 m6 m7 m8 m9 m10 m11 m12 m13 m14 m15 mo0 mo1 mo2 mo3 mn0 mn1 mn2 mn3
  have ko0 : w.heap.size < x2.heap.size := by omega
  have kn0 : x2.heap.size ≠ w.heap.size := by omega
  have ko1 : w.heap.size + 1 < x2.heap.size := by omega
  have kn1 : x2.heap.size ≠ w.heap.size + 1 := by omega
  have ko2 : w.heap.size + 2 < x2.heap.size := by omega
  have kn2 : x2.heap.size ≠ w.heap.size + 2 := by omega
  have ko3 : w3.heap.size < x2.heap.size := by omega
  have kn3 : x2.heap.size ≠ w3.heap.size := by omega
  go_wp2_with fail
  refine hK.out _ _ (by simp [go_sem, World.cell?_alloc_past, *]) (fun hHeld => ?_)
  clear hK K
  try simp only [Act.put, List.setIfInBounds_toArray, List.set_cons_zero, List.set_cons_succ]
  refine wpAnyH_ready (rs := [7]) (by kernel_rfl) (by simp) ?_
  refine AllReadyH.cons rfl (fun K hK => ?_) AllReadyH.nil
  go_simp
  refine (KeptAt_x T L A2 A3 cap2 cap3 p f k g _ (by omega) (by omega) hk hg (Lib.hid (HS4.out.below (by exact (by (repeat (first | (with_reducible refine Below.drew ?_) | (with_reducible refine below_drewN ?_ _) | (with_reducible refine Below.alloc ?_ (by first | omega | (simp; done) | (simp; omega) | (simp at *; omega)) _) | (with_reducible refine Below.setCell ?_ (by first | omega | (simp; done) | (simp; omega) | (simp at *; omega)) _) | (with_reducible exact Below.refl _ _) | (with_reducible assumption) | (with_reducible refine Below.trans ?_ (Below.mono (by assumption) (by first | omega | (simp; done) | (simp; omega) | (simp at *; omega)))))))))) (Lib.hid (HS3.out.below (by exact (by (repeat (first | (with_reducible refine Below.drew ?_) | (with_reducible refine below_drewN ?_ _) | (with_reducible refine Below.alloc ?_ (by first | omega | (simp; done) | (simp; omega) | (simp at *; omega)) _) | (with_reducible refine Below.setCell ?_ (by first | omega | (simp; done) | (simp; omega) | (simp at *; omega)) _) | (with_reducible exact Below.refl _ _) | (with_reducible assumption) | (with_reducible refine Below.trans ?_ (Below.mono (by assumption) (by first | omega | (simp; done) | (simp; omega) | (simp at *; omega))))))))))).mono ?_
  rintro e x3 ⟨rfl, hb3⟩
  have zx3 := hb3.size
  try simp at zx3
  have j0 : x3.cell? ⟨w.heap.size, 0, none⟩ = some (.slice A T.length cap) := (by rw [(bcell hb3).1 _ _ (by first | (simp; done) | (simp; omega) | omega)]; simp [go_sem, World.cell?_alloc_past, *])
  have j1 : x3.cell? ⟨w.heap.size, 1, none⟩ = some (.slice B L.length cap') := (by rw [(bcell hb3).1 _ _ (by first | (simp; done) | (simp; omega) | omega)]; simp [go_sem, World.cell?_alloc_past, *])
  have j2 : x3.cell? ⟨w.heap.size, 2, none⟩ = some (.int .i64 fr) := (by rw [(bcell hb3).1 _ _ (by first | (simp; done) | (simp; omega) | omega)]; simp [go_sem, World.cell?_alloc_past, *])
  have j3 : x3.cell? ⟨w.heap.size, 3, none⟩ = some (.int .i64 tz) := (by rw [(bcell hb3).1 _ _ (by first | (simp; done) | (simp; omega) | omega)]; simp [go_sem, World.cell?_alloc_past, *])
  have j4 : x3.cell? ⟨w.heap.size, 4, none⟩ = some (.int .i64 se) := (by rw [(bcell hb3).1 _ _ (by first | (simp; done) | (simp; omega) | omega)]; simp [go_sem, World.cell?_alloc_past, *])
  have j5 : x3.cell? ⟨w.heap.size, 5, none⟩ = some (.int .i64 o) := (by rw [(bcell hb3).1 _ _ (by first | (simp; done) | (simp; omega) | omega)]; simp [go_sem, World.cell?_alloc_past, *])
  have j6 : x3.cell? ⟨w.heap.size, 6, none⟩ = some (.int .i64 hh) := (by rw [(bcell hb3).1 _ _ (by first | (simp; done) | (simp; omega) | omega)]; simp [go_sem, World.cell?_alloc_past, *])
  have j7 : x3.cell? ⟨w.heap.size, 7, none⟩ = some (.int .i64 fi) := (by rw [(bcell hb3).1 _ _ (by first | (simp; done) | (simp; omega) | omega)]; simp [go_sem, World.cell?_alloc_past, *])
  have j8 : x3.cell? ⟨w.heap.size + 1, 0, none⟩ = some (.int .i64 n) := (by rw [(bcell hb3).1 _ _ (by first | (simp; done) | (simp; omega) | omega)]; simp [go_sem, World.cell?_alloc_past, *])
  have j9 : x3.cell? ⟨w.heap.size + 1, 1, none⟩ = some (.int .i64 h) := (by rw [(bcell hb3).1 _ _ (by first | (simp; done) | (simp; omega) | omega)]; simp [go_sem, World.cell?_alloc_past, *])
  have j10 : x3.cell? ⟨w.heap.size + 1, 2, none⟩ = some (.int .i64 b) := (by rw [(bcell hb3).1 _ _ (by first | (simp; done) | (simp; omega) | omega)]; simp [go_sem, World.cell?_alloc_past, *])
  have j11 : x3.cell? ⟨w.heap.size + 1, 3, none⟩ = some (.int .i64 s) := (by rw [(bcell hb3).1 _ _ (by first | (simp; done) | (simp; omega) | omega)]; simp [go_sem, World.cell?_alloc_past, *])
  have j12 : x3.cell? ⟨w.heap.size + 2, 0, none⟩ = some (.int .i64 p) := (by rw [(bcell hb3).1 _ _ (by first | (simp; done) | (simp; omega) | omega)]; simp [go_sem, World.cell?_alloc_past, *])
  have j13 : x3.cell? ⟨w.heap.size + 2, 1, none⟩ = some (.int .i64 f) := (by rw [(bcell hb3).1 _ _ (by first | (simp; done) | (simp; omega) | omega)]; simp [go_sem, World.cell?_alloc_past, *])
  have j14 : x3.cell? ⟨w3.heap.size, 0, none⟩ = some (.int .i64 0) := (by rw [(bcell hb3).1 _ _ (by first | (simp; done) | (simp; omega) | omega)]; simp [go_sem, World.cell?_alloc_past, *])
  have j15 : x3.cell? ⟨w3.heap.size, 1, none⟩ = some (.int .i64 0) := (by rw [(bcell hb3).1 _ _ (by first | (simp; done) | (simp; omega) | omega)]; simp [go_sem, World.cell?_alloc_past, *])
  have hX3 : Below w.heap.size w x3 := (by (repeat (first | (with_reducible refine Below.drew ?_) | (with_reducible refine below_drewN ?_ _) | (with_reducible refine Below.alloc ?_ (by first | omega | (simp; done) | (simp; omega) | (simp at *; omega)) _) | (with_reducible refine Below.setCell ?_ (by first | omega | (simp; done) | (simp; omega) | (simp at *; omega)) _) | (with_reducible exact Below.refl _ _) | (with_reducible assumption) | (with_reducible refine Below.trans ?_ (Below.mono (by assumption) (by first | omega | (simp; done) | (simp; omega) | (simp at *; omega)))))))
  have zz3 := hX3.size
  clear hb3 HS3 HS4 hX2 k0 k1 k2 k3 k4 k5 k6 k7 k8 k9 k10 k11 k12 k13 k14 k15 ko0 ko1 ko2 ko3 kn0 kn1 kn2 kn3
  have jo0 : w.heap.size < x3.heap.size := by omega
  have jn0 : x3.heap.size ≠ w.heap.size := by omega
  have jo1 : w.heap.size + 1 < x3.heap.size := by omega
  have jn1 : x3.heap.size ≠ w.heap.size + 1 := by omega
  have jo2 : w.heap.size + 2 < x3.heap.size := by omega
  have jn2 : x3.heap.size ≠ w.heap.size + 2 := by omega
  have jo3 : w3.heap.size < x3.heap.size := by omega
  have jn3 : x3.heap.size ≠ w3.heap.size := by omega
  go_wp2_with fail
  refine hK.out _ _ (by simp [go_sem, World.cell?_alloc_past, *]) (fun hHeld => ?_)
  clear hK K
  try simp only [Act.put, List.setIfInBounds_toArray, List.set_cons_zero, List.set_cons_succ]
  refine wpAnyH_take (i := 8) (oi := ⟨some 27, _, _, _, _, _⟩) (v := ?_) rfl (by kernel_rfl) (by kernel_rfl) (by kernel_rfl) (fun _ _ _ h => h) (Or.inl ⟨by kernel_rfl, ?_⟩) (by assumption) ?_
  rotate_left
  · (intro w hSw; (try dsimp only at hSw); go_simp; all_goals with_reducible rfl)
  try simp only [Act.put, List.setIfInBounds_toArray, List.set_cons_zero, List.set_cons_succ]
  refine wpAnyH_take (i := 9) (oi := ⟨some 36, _, _, _, _, _⟩) (v := ?_) rfl (by kernel_rfl) (by kernel_rfl) (by kernel_rfl) (fun _ _ _ h => h) (Or.inl ⟨by kernel_rfl, ?_⟩) (by assumption) ?_
  rotate_left
  · (intro w hSw; (try dsimp only at hSw); go_simp; all_goals with_reducible rfl)
  try simp only [Act.put, List.setIfInBounds_toArray, List.set_cons_zero, List.set_cons_succ]
  refine wpAnyH_take (i := 10) (oi := ⟨some 37, _, _, _, _, _⟩) (v := ?_) rfl (by kernel_rfl) (by kernel_rfl) (by kernel_rfl) (fun _ _ _ h => h) (Or.inl ⟨by kernel_rfl, ?_⟩) (by assumption) ?_
  rotate_left
  · (intro w hSw; (try dsimp only at hSw); go_simp; all_goals with_reducible rfl)
  try simp only [Act.put, List.setIfInBounds_toArray, List.set_cons_zero, List.set_cons_succ]
  refine wpAnyH_take (i := 11) (oi := ⟨some 9, _, _, _, _, _⟩) (v := ?_) rfl (by kernel_rfl) (by kernel_rfl) (by kernel_rfl) (fun _ _ _ h => h) (Or.inl ⟨by kernel_rfl, ?_⟩) (by assumption) ?_
  rotate_left
  · (intro w hSw; (try dsimp only at hSw); go_simp; all_goals with_reducible rfl)
  try simp only [Act.put, List.setIfInBounds_toArray, List.set_cons_zero, List.set_cons_succ]
  refine wpAnyH_take (i := 12) (oi := ⟨some 10, _, _, _, _, _⟩) (v := ?_) rfl (by kernel_rfl) (by kernel_rfl) (by kernel_rfl) (fun _ _ _ h => h) (Or.inl ⟨by kernel_rfl, ?_⟩) (by assumption) ?_
  rotate_left
  · (intro w hSw; (try dsimp only at hSw); go_simp; all_goals with_reducible rfl)
  try simp only [Act.put, List.setIfInBounds_toArray, List.set_cons_zero, List.set_cons_succ]
  refine wpAnyH_done (by kernel_rfl) ?_ _
  clear c3_0 c3_1 c3_2 c3_3 c3_4 c3_5 c3_6 c3_7 c3_8 c3_9 c3_10 c3_11 c3_12 c3_13 o3_0 n3_0 t3_0_1 t3_0_2 t3_0_3 o3_1 n3_1 t3_1_1 t3_1_2 t3_1_3 o3_2 n3_2 t3_2_1 t3_2_2 t3_2_3
  go_wp2_with (first | (go_at_call 29; ((with_reducible refine (HP.out _).mono ?_)); rintro e w' ⟨rfl, rfl⟩))
  refine (HC.out _).mono ?_
  rintro e x4 ⟨rfl, hb4⟩
  have zx4 := hb4.size
  try simp at zx4
  have i0 : x4.cell? ⟨w.heap.size, 0, none⟩ = some (.slice A T.length cap) := (by rw [(bcell hb4).1 _ _ (by first | (simp; done) | (simp; omega) | omega)]; simp [go_sem, World.cell?_alloc_past, *])
  have i1 : x4.cell? ⟨w.heap.size, 1, none⟩ = some (.slice B L.length cap') := (by rw [(bcell hb4).1 _ _ (by first | (simp; done) | (simp; omega) | omega)]; simp [go_sem, World.cell?_alloc_past, *])
  have i2 : x4.cell? ⟨w.heap.size, 2, none⟩ = some (.int .i64 fr) := (by rw [(bcell hb4).1 _ _ (by first | (simp; done) | (simp; omega) | omega)]; simp [go_sem, World.cell?_alloc_past, *])
  have i3 : x4.cell? ⟨w.heap.size, 3, none⟩ = some (.int .i64 tz) := (by rw [(bcell hb4).1 _ _ (by first | (simp; done) | (simp; omega) | omega)]; simp [go_sem, World.cell?_alloc_past, *])
  have i4 : x4.cell? ⟨w.heap.size, 4, none⟩ = some (.int .i64 se) := (by rw [(bcell hb4).1 _ _ (by first | (simp; done) | (simp; omega) | omega)]; simp [go_sem, World.cell?_alloc_past, *])
  have i5 : x4.cell? ⟨w.heap.size, 5, none⟩ = some (.int .i64 o) := (by rw [(bcell hb4).1 _ _ (by first | (simp; done) | (simp; omega) | omega)]; simp [go_sem, World.cell?_alloc_past, *])
  have i6 : x4.cell? ⟨w.heap.size, 6, none⟩ = some (.int .i64 hh) := (by rw [(bcell hb4).1 _ _ (by first | (simp; done) | (simp; omega) | omega)]; simp [go_sem, World.cell?_alloc_past, *])
  have i7 : x4.cell? ⟨w.heap.size, 7, none⟩ = some (.int .i64 fi) := (by rw [(bcell hb4).1 _ _ (by first | (simp; done) | (simp; omega) | omega)]; simp [go_sem, World.cell?_alloc_past, *])
  have i8 : x4.cell? ⟨w.heap.size + 1, 0, none⟩ = some (.int .i64 n) := (by rw [(bcell hb4).1 _ _ (by first | (simp; done) | (simp; omega) | omega)]; simp [go_sem, World.cell?_alloc_past, *])
  have i9 : x4.cell? ⟨w.heap.size + 1, 1, none⟩ = some (.int .i64 h) := (by rw [(bcell hb4).1 _ _ (by first | (simp; done) | (simp; omega) | omega)]; simp [go_sem, World.cell?_alloc_past, *])
  have i10 : x4.cell? ⟨w.heap.size + 1, 2, none⟩ = some (.int .i64 b) := (by rw [(bcell hb4).1 _ _ (by first | (simp; done) | (simp; omega) | omega)]; simp [go_sem, World.cell?_alloc_past, *])
  have i11 : x4.cell? ⟨w.heap.size + 1, 3, none⟩ = some (.int .i64 s) := (by rw [(bcell hb4).1 _ _ (by first | (simp; done) | (simp; omega) | omega)]; simp [go_sem, World.cell?_alloc_past, *])
  have i12 : x4.cell? ⟨w.heap.size + 2, 0, none⟩ = some (.int .i64 p) := (by rw [(bcell hb4).1 _ _ (by first | (simp; done) | (simp; omega) | omega)]; simp [go_sem, World.cell?_alloc_past, *])
  have i13 : x4.cell? ⟨w.heap.size + 2, 1, none⟩ = some (.int .i64 f) := (by rw [(bcell hb4).1 _ _ (by first | (simp; done) | (simp; omega) | omega)]; simp [go_sem, World.cell?_alloc_past, *])
  have i14 : x4.cell? ⟨w3.heap.size, 0, none⟩ = some (.int .i64 0) := (by rw [(bcell hb4).1 _ _ (by first | (simp; done) | (simp; omega) | omega)]; simp [go_sem, World.cell?_alloc_past, *])
  have i15 : x4.cell? ⟨w3.heap.size, 1, none⟩ = some (.int .i64 0) := (by rw [(bcell hb4).1 _ _ (by first | (simp; done) | (simp; omega) | omega)]; simp [go_sem, World.cell?_alloc_past, *])
  have hX4 : Below w.heap.size w x4 := (by (repeat (first | (with_reducible refine Below.drew ?_) | (with_reducible refine below_drewN ?_ _) | (with_reducible refine Below.alloc ?_ (by first | omega | (simp; done) | (simp; omega) | (simp at *; omega)) _) | (with_reducible refine Below.setCell ?_ (by first | omega | (simp; done) | (simp; omega) | (simp at *; omega)) _) | (with_reducible exact Below.refl _ _) | (with_reducible assumption) | (with_reducible refine Below.trans ?_ (Below.mono (by assumption) (by first | omega | (simp; done) | (simp; omega) | (simp at *; omega)))))))
  have zz4 := hX4.size
  clear hb4 hX3 j0 j1 j2 j3 j4 j5 j6 j7 j8 j9 j10 j11 j12 j13 j14 j15 jo0 jo1 jo2 jo3 jn0 jn1 jn2 jn3
  have io0 : w.heap.size < x4.heap.size := by omega
  have in0 : x4.heap.size ≠ w.heap.size := by omega
  have io1 : w.heap.size + 1 < x4.heap.size := by omega
  have in1 : x4.heap.size ≠ w.heap.size + 1 := by omega
  have io2 : w.heap.size + 2 < x4.heap.size := by omega
  have in2 : x4.heap.size ≠ w.heap.size + 2 := by omega
  have io3 : w3.heap.size < x4.heap.size := by omega
  have in3 : x4.heap.size ≠ w3.heap.size := by omega
  go_wp2_with fail
  refine (refCheckLoads_is T L A B cap cap' q _ hl hl' hq (HT.out.below (by exact (by (repeat (first | (with_reducible refine Below.drew ?_) | (with_reducible refine below_drewN ?_ _) | (with_reducible refine Below.alloc ?_ (by first | omega | (simp; done) | (simp; omega) | (simp at *; omega)) _) | (with_reducible refine Below.setCell ?_ (by first | omega | (simp; done) | (simp; omega) | (simp at *; omega)) _) | (with_reducible exact Below.refl _ _) | (with_reducible assumption) | (with_reducible refine Below.trans ?_ (Below.mono (by assumption) (by first | omega | (simp; done) | (simp; omega) | (simp at *; omega))))))))) (HL.out.below (by exact (by (repeat (first | (with_reducible refine Below.drew ?_) | (with_reducible refine below_drewN ?_ _) | (with_reducible refine Below.alloc ?_ (by first | omega | (simp; done) | (simp; omega) | (simp at *; omega)) _) | (with_reducible refine Below.setCell ?_ (by first | omega | (simp; done) | (simp; omega) | (simp at *; omega)) _) | (with_reducible exact Below.refl _ _) | (with_reducible assumption) | (with_reducible refine Below.trans ?_ (Below.mono (by assumption) (by first | omega | (simp; done) | (simp; omega) | (simp at *; omega)))))))))).mono ?_
  rintro e x6 ⟨rfl, hb6⟩
  have zx6 := hb6.size
  try simp at zx6
  have l0 : x6.cell? ⟨w.heap.size, 0, none⟩ = some (.slice A T.length cap) := (by rw [(bcell hb6).1 _ _ (by first | (simp; done) | (simp; omega) | omega)]; simp [go_sem, World.cell?_alloc_past, *])
  have l1 : x6.cell? ⟨w.heap.size, 1, none⟩ = some (.slice B L.length cap') := (by rw [(bcell hb6).1 _ _ (by first | (simp; done) | (simp; omega) | omega)]; simp [go_sem, World.cell?_alloc_past, *])
  have l2 : x6.cell? ⟨w.heap.size, 2, none⟩ = some (.int .i64 fr) := (by rw [(bcell hb6).1 _ _ (by first | (simp; done) | (simp; omega) | omega)]; simp [go_sem, World.cell?_alloc_past, *])
  have l3 : x6.cell? ⟨w.heap.size, 3, none⟩ = some (.int .i64 tz) := (by rw [(bcell hb6).1 _ _ (by first | (simp; done) | (simp; omega) | omega)]; simp [go_sem, World.cell?_alloc_past, *])
  have l4 : x6.cell? ⟨w.heap.size, 4, none⟩ = some (.int .i64 se) := (by rw [(bcell hb6).1 _ _ (by first | (simp; done) | (simp; omega) | omega)]; simp [go_sem, World.cell?_alloc_past, *])
  have l5 : x6.cell? ⟨w.heap.size, 5, none⟩ = some (.int .i64 o) := (by rw [(bcell hb6).1 _ _ (by first | (simp; done) | (simp; omega) | omega)]; simp [go_sem, World.cell?_alloc_past, *])
  have l6 : x6.cell? ⟨w.heap.size, 6, none⟩ = some (.int .i64 hh) := (by rw [(bcell hb6).1 _ _ (by first | (simp; done) | (simp; omega) | omega)]; simp [go_sem, World.cell?_alloc_past, *])
  have l7 : x6.cell? ⟨w.heap.size, 7, none⟩ = some (.int .i64 fi) := (by rw [(bcell hb6).1 _ _ (by first | (simp; done) | (simp; omega) | omega)]; simp [go_sem, World.cell?_alloc_past, *])
  have l8 : x6.cell? ⟨w.heap.size + 1, 0, none⟩ = some (.int .i64 n) := (by rw [(bcell hb6).1 _ _ (by first | (simp; done) | (simp; omega) | omega)]; simp [go_sem, World.cell?_alloc_past, *])
  have l9 : x6.cell? ⟨w.heap.size + 1, 1, none⟩ = some (.int .i64 h) := (by rw [(bcell hb6).1 _ _ (by first | (simp; done) | (simp; omega) | omega)]; simp [go_sem, World.cell?_alloc_past, *])
  have l10 : x6.cell? ⟨w.heap.size + 1, 2, none⟩ = some (.int .i64 b) := (by rw [(bcell hb6).1 _ _ (by first | (simp; done) | (simp; omega) | omega)]; simp [go_sem, World.cell?_alloc_past, *])
  have l11 : x6.cell? ⟨w.heap.size + 1, 3, none⟩ = some (.int .i64 s) := (by rw [(bcell hb6).1 _ _ (by first | (simp; done) | (simp; omega) | omega)]; simp [go_sem, World.cell?_alloc_past, *])
  have l12 : x6.cell? ⟨w.heap.size + 2, 0, none⟩ = some (.int .i64 p) := (by rw [(bcell hb6).1 _ _ (by first | (simp; done) | (simp; omega) | omega)]; simp [go_sem, World.cell?_alloc_past, *])
  have l13 : x6.cell? ⟨w.heap.size + 2, 1, none⟩ = some (.int .i64 f) := (by rw [(bcell hb6).1 _ _ (by first | (simp; done) | (simp; omega) | omega)]; simp [go_sem, World.cell?_alloc_past, *])
  have l14 : x6.cell? ⟨w3.heap.size, 0, none⟩ = some (.int .i64 0) := (by rw [(bcell hb6).1 _ _ (by first | (simp; done) | (simp; omega) | omega)]; simp [go_sem, World.cell?_alloc_past, *])
  have l15 : x6.cell? ⟨w3.heap.size, 1, none⟩ = some (.int .i64 0) := (by rw [(bcell hb6).1 _ _ (by first | (simp; done) | (simp; omega) | omega)]; simp [go_sem, World.cell?_alloc_past, *])
  have hX6 : Below w.heap.size w x6 := (by (repeat (first | (with_reducible refine Below.drew ?_) | (with_reducible refine below_drewN ?_ _) | (with_reducible refine Below.alloc ?_ (by first | omega | (simp; done) | (simp; omega) | (simp at *; omega)) _) | (with_reducible refine Below.setCell ?_ (by first | omega | (simp; done) | (simp; omega) | (simp at *; omega)) _) | (with_reducible exact Below.refl _ _) | (with_reducible assumption) | (with_reducible refine Below.trans ?_ (Below.mono (by assumption) (by first | omega | (simp; done) | (simp; omega) | (simp at *; omega)))))))
  have zz6 := hX6.size
  clear hb6 i0 i1 i2 i3 i4 i5 i6 i7 i8 i9 i10 i11 i12 i13 i14 i15 io0 io1 io2 io3 in0 in1 in2 in3
  have lo0 : w.heap.size < x6.heap.size := by omega
  have ln0 : x6.heap.size ≠ w.heap.size := by omega
  have lo1 : w.heap.size + 1 < x6.heap.size := by omega
  have ln1 : x6.heap.size ≠ w.heap.size + 1 := by omega
  have lo2 : w.heap.size + 2 < x6.heap.size := by omega
  have ln2 : x6.heap.size ≠ w.heap.size + 2 := by omega
  have lo3 : w3.heap.size < x6.heap.size := by omega
  have ln3 : x6.heap.size ≠ w3.heap.size := by omega
  rcases ez2 q with ⟨hz0, hzb⟩ | ⟨hz0, hzb⟩
  · have hgv : g = 2 := by rw [← hg.out]; exact keptE_2 (by rw [hq.out]; exact hz0.out) (Or.inl HPP.out)
    have hkv : k = 0 := by rw [← hk.out, keptV, if_neg (by rw [hg.out, hgv]; decide)]
    subst hgv hkv
    clear hz0
    go_wp2
    go_ret
    exact ⟨by first | rfl | simp, (by (repeat (first | (with_reducible refine Below.drew ?_) | (with_reducible refine below_drewN ?_ _) | (with_reducible refine Below.alloc ?_ (by first | omega | (simp; done) | (simp; omega) | (simp at *; omega)) _) | (with_reducible refine Below.setCell ?_ (by first | omega | (simp; done) | (simp; omega) | (simp at *; omega)) _) | (with_reducible exact Below.refl _ _) | (with_reducible assumption) | (with_reducible refine Below.trans ?_ (Below.mono (by assumption) (by first | omega | (simp; done) | (simp; omega) | (simp at *; omega)))))))⟩
  · have hgv : g = q := by rw [← hg.out]; exact keptE_q hq.out hz0.out
    have hkv : k = 0 := by rw [← hk.out, keptV, if_neg (by rw [hg.out, hgv]; exact hz0.out)]
    subst hgv hkv
    clear hz0
    go_wp2
    go_ret
    exact ⟨by first | rfl | simp, (by (repeat (first | (with_reducible refine Below.drew ?_) | (with_reducible refine below_drewN ?_ _) | (with_reducible refine Below.alloc ?_ (by first | omega | (simp; done) | (simp; omega) | (simp at *; omega)) _) | (with_reducible refine Below.setCell ?_ (by first | omega | (simp; done) | (simp; omega) | (simp at *; omega)) _) | (with_reducible exact Below.refl _ _) | (with_reducible assumption) | (with_reducible refine Below.trans ?_ (Below.mono (by assumption) (by first | omega | (simp; done) | (simp; omega) | (simp at *; omega)))))))⟩
set_option maxRecDepth 100000 in
set_option maxHeartbeats 4000000 in
theorem tissueLimits_P2 (T : List Cm) (L : List Ld) (A B : Option Addr) (cap cap' : Nat) (fr tz se o hh fi n h b s p f : Int) (w : World) (hl : T.length ≤ 9223372036854775807) (hl' : L.length ≤ 9223372036854775807) (hA : A = none → cap = 0) (hB : B = none → cap' = 0) (HT : Hid (SlCm w A T)) (HL : Hid (SlLd w B L)) (hli : (fewB T.length && decide (L.length ≤ 19)) = true) (hp : inB p 400 31100 = false) (hc : cmpE n h b s = 2) :
    Calls Try.prog 10 #[.agg #[.slice A T.length cap, .slice B L.length cap', .int .i64 fr, .int .i64 tz, .int .i64 se, .int .i64 o, .int .i64 hh, .int .i64 fi], .agg #[.int .i64 n, .int .i64 h, .int .i64 b, .int .i64 s], .agg #[.int .i64 p, .int .i64 f]] w fun e w' => e = .returned (.bool true) ∧ Below w.heap.size w w' := by
  have hlt : T.length ≤ 18 := few_le (by cases h0 : fewB T.length with | true => rfl | false => rw [h0] at hli; simp at hli)
  have hll : L.length ≤ 19 := by cases h0 : fewB T.length with | true => rw [h0] at hli; simpa using hli | false => rw [h0] at hli; simp at hli
  have HLI := Lib.hid (fun w => light_is T L A B cap cap' fr tz se o hh fi true w hl' (Lib.hid hli))
  have HNA := Lib.hid hA
  have HNB := Lib.hid hB
  have HP := Lib.hid (fun w => isPressure_is p false w (Lib.hid hp))
  have HC := Lib.hid (fun w => refCheckComp_is n h b s 2 w (Lib.hid hc))
  have HLA := Lib.hid (fun w => LimitAt_bad n h b s p f 2 w (Lib.hid (limE3_2 (Or.inl hc))) (by decide))
  obtain ⟨k, hk⟩ : ∃ z, Hid (keptV T L p f = z) := ⟨_, rfl⟩
  obtain ⟨g, hg⟩ : ∃ z, Hid (keptE T L p f = z) := ⟨_, rfl⟩
  obtain ⟨q, hq⟩ : ∃ z, Hid (loadsE T L = z) := ⟨_, rfl⟩
  have HPP := Lib.hid hp
  clear hli hA hB hp hc
  go_enter Try.func10, Try.ntmps10
  go_wp2_with fail
  refine (tawake_any _).mono ?_
  rintro e w1 ⟨rfl, hbw1⟩
  have z1 := hbw1.size
  try simp at z1
  have c1_0 : w1.cell? ⟨w.heap.size, 0, none⟩ = some (.slice A T.length cap) := by rw [(bcell hbw1).1 _ _ (by first | (simp; done) | (simp; omega) | omega)]; simp [go_sem, World.cell?_alloc_past, *]
  have c1_1 : w1.cell? ⟨w.heap.size, 1, none⟩ = some (.slice B L.length cap') := by rw [(bcell hbw1).1 _ _ (by first | (simp; done) | (simp; omega) | omega)]; simp [go_sem, World.cell?_alloc_past, *]
  have c1_2 : w1.cell? ⟨w.heap.size, 2, none⟩ = some (.int .i64 fr) := by rw [(bcell hbw1).1 _ _ (by first | (simp; done) | (simp; omega) | omega)]; simp [go_sem, World.cell?_alloc_past, *]
  have c1_3 : w1.cell? ⟨w.heap.size, 3, none⟩ = some (.int .i64 tz) := by rw [(bcell hbw1).1 _ _ (by first | (simp; done) | (simp; omega) | omega)]; simp [go_sem, World.cell?_alloc_past, *]
  have c1_4 : w1.cell? ⟨w.heap.size, 4, none⟩ = some (.int .i64 se) := by rw [(bcell hbw1).1 _ _ (by first | (simp; done) | (simp; omega) | omega)]; simp [go_sem, World.cell?_alloc_past, *]
  have c1_5 : w1.cell? ⟨w.heap.size, 5, none⟩ = some (.int .i64 o) := by rw [(bcell hbw1).1 _ _ (by first | (simp; done) | (simp; omega) | omega)]; simp [go_sem, World.cell?_alloc_past, *]
  have c1_6 : w1.cell? ⟨w.heap.size, 6, none⟩ = some (.int .i64 hh) := by rw [(bcell hbw1).1 _ _ (by first | (simp; done) | (simp; omega) | omega)]; simp [go_sem, World.cell?_alloc_past, *]
  have c1_7 : w1.cell? ⟨w.heap.size, 7, none⟩ = some (.int .i64 fi) := by rw [(bcell hbw1).1 _ _ (by first | (simp; done) | (simp; omega) | omega)]; simp [go_sem, World.cell?_alloc_past, *]
  have c1_8 : w1.cell? ⟨w.heap.size + 1, 0, none⟩ = some (.int .i64 n) := by rw [(bcell hbw1).1 _ _ (by first | (simp; done) | (simp; omega) | omega)]; simp [go_sem, World.cell?_alloc_past, *]
  have c1_9 : w1.cell? ⟨w.heap.size + 1, 1, none⟩ = some (.int .i64 h) := by rw [(bcell hbw1).1 _ _ (by first | (simp; done) | (simp; omega) | omega)]; simp [go_sem, World.cell?_alloc_past, *]
  have c1_10 : w1.cell? ⟨w.heap.size + 1, 2, none⟩ = some (.int .i64 b) := by rw [(bcell hbw1).1 _ _ (by first | (simp; done) | (simp; omega) | omega)]; simp [go_sem, World.cell?_alloc_past, *]
  have c1_11 : w1.cell? ⟨w.heap.size + 1, 3, none⟩ = some (.int .i64 s) := by rw [(bcell hbw1).1 _ _ (by first | (simp; done) | (simp; omega) | omega)]; simp [go_sem, World.cell?_alloc_past, *]
  have c1_12 : w1.cell? ⟨w.heap.size + 2, 0, none⟩ = some (.int .i64 p) := by rw [(bcell hbw1).1 _ _ (by first | (simp; done) | (simp; omega) | omega)]; simp [go_sem, World.cell?_alloc_past, *]
  have c1_13 : w1.cell? ⟨w.heap.size + 2, 1, none⟩ = some (.int .i64 f) := by rw [(bcell hbw1).1 _ _ (by first | (simp; done) | (simp; omega) | omega)]; simp [go_sem, World.cell?_alloc_past, *]
  have hB1 : Below w.heap.size w w1 := (by (repeat (first | (with_reducible refine Below.drew ?_) | (with_reducible refine below_drewN ?_ _) | (with_reducible refine Below.alloc ?_ (by first | omega | (simp; done) | (simp; omega) | (simp at *; omega)) _) | (with_reducible refine Below.setCell ?_ (by first | omega | (simp; done) | (simp; omega) | (simp at *; omega)) _) | (with_reducible exact Below.refl _ _) | (with_reducible assumption) | (with_reducible refine Below.trans ?_ (Below.mono (by assumption) (by first | omega | (simp; done) | (simp; omega) | (simp at *; omega)))))))
  have o1_0 : w.heap.size < w1.heap.size := by omega
  have n1_0 : w1.heap.size ≠ w.heap.size := by omega
  have t1_0_1 : w.heap.size < w1.heap.size + 1 := by omega
  have t1_0_2 : w.heap.size < w1.heap.size + 1 + 1 := by omega
  have t1_0_3 : w.heap.size < w1.heap.size + 1 + 1 + 1 := by omega
  have o1_1 : w.heap.size + 1 < w1.heap.size := by omega
  have n1_1 : w1.heap.size ≠ w.heap.size + 1 := by omega
  have t1_1_1 : w.heap.size + 1 < w1.heap.size + 1 := by omega
  have t1_1_2 : w.heap.size + 1 < w1.heap.size + 1 + 1 := by omega
  have t1_1_3 : w.heap.size + 1 < w1.heap.size + 1 + 1 + 1 := by omega
  have o1_2 : w.heap.size + 2 < w1.heap.size := by omega
  have n1_2 : w1.heap.size ≠ w.heap.size + 2 := by omega
  have t1_2_1 : w.heap.size + 2 < w1.heap.size + 1 := by omega
  have t1_2_2 : w.heap.size + 2 < w1.heap.size + 1 + 1 := by omega
  have t1_2_3 : w.heap.size + 2 < w1.heap.size + 1 + 1 + 1 := by omega
  have b1 : w.heap.size ≤ w1.heap.size := by omega
  clear hbw1
  go_wp2_with fail
  refine (HLI.out _).mono ?_
  rintro e w2 ⟨rfl, hbw2⟩
  have z2 := hbw2.size
  try simp at z2
  have c2_0 : w2.cell? ⟨w.heap.size, 0, none⟩ = some (.slice A T.length cap) := by rw [(bcell hbw2).1 _ _ (by first | (simp; done) | (simp; omega) | omega)]; simp [go_sem, World.cell?_alloc_past, *]
  have c2_1 : w2.cell? ⟨w.heap.size, 1, none⟩ = some (.slice B L.length cap') := by rw [(bcell hbw2).1 _ _ (by first | (simp; done) | (simp; omega) | omega)]; simp [go_sem, World.cell?_alloc_past, *]
  have c2_2 : w2.cell? ⟨w.heap.size, 2, none⟩ = some (.int .i64 fr) := by rw [(bcell hbw2).1 _ _ (by first | (simp; done) | (simp; omega) | omega)]; simp [go_sem, World.cell?_alloc_past, *]
  have c2_3 : w2.cell? ⟨w.heap.size, 3, none⟩ = some (.int .i64 tz) := by rw [(bcell hbw2).1 _ _ (by first | (simp; done) | (simp; omega) | omega)]; simp [go_sem, World.cell?_alloc_past, *]
  have c2_4 : w2.cell? ⟨w.heap.size, 4, none⟩ = some (.int .i64 se) := by rw [(bcell hbw2).1 _ _ (by first | (simp; done) | (simp; omega) | omega)]; simp [go_sem, World.cell?_alloc_past, *]
  have c2_5 : w2.cell? ⟨w.heap.size, 5, none⟩ = some (.int .i64 o) := by rw [(bcell hbw2).1 _ _ (by first | (simp; done) | (simp; omega) | omega)]; simp [go_sem, World.cell?_alloc_past, *]
  have c2_6 : w2.cell? ⟨w.heap.size, 6, none⟩ = some (.int .i64 hh) := by rw [(bcell hbw2).1 _ _ (by first | (simp; done) | (simp; omega) | omega)]; simp [go_sem, World.cell?_alloc_past, *]
  have c2_7 : w2.cell? ⟨w.heap.size, 7, none⟩ = some (.int .i64 fi) := by rw [(bcell hbw2).1 _ _ (by first | (simp; done) | (simp; omega) | omega)]; simp [go_sem, World.cell?_alloc_past, *]
  have c2_8 : w2.cell? ⟨w.heap.size + 1, 0, none⟩ = some (.int .i64 n) := by rw [(bcell hbw2).1 _ _ (by first | (simp; done) | (simp; omega) | omega)]; simp [go_sem, World.cell?_alloc_past, *]
  have c2_9 : w2.cell? ⟨w.heap.size + 1, 1, none⟩ = some (.int .i64 h) := by rw [(bcell hbw2).1 _ _ (by first | (simp; done) | (simp; omega) | omega)]; simp [go_sem, World.cell?_alloc_past, *]
  have c2_10 : w2.cell? ⟨w.heap.size + 1, 2, none⟩ = some (.int .i64 b) := by rw [(bcell hbw2).1 _ _ (by first | (simp; done) | (simp; omega) | omega)]; simp [go_sem, World.cell?_alloc_past, *]
  have c2_11 : w2.cell? ⟨w.heap.size + 1, 3, none⟩ = some (.int .i64 s) := by rw [(bcell hbw2).1 _ _ (by first | (simp; done) | (simp; omega) | omega)]; simp [go_sem, World.cell?_alloc_past, *]
  have c2_12 : w2.cell? ⟨w.heap.size + 2, 0, none⟩ = some (.int .i64 p) := by rw [(bcell hbw2).1 _ _ (by first | (simp; done) | (simp; omega) | omega)]; simp [go_sem, World.cell?_alloc_past, *]
  have c2_13 : w2.cell? ⟨w.heap.size + 2, 1, none⟩ = some (.int .i64 f) := by rw [(bcell hbw2).1 _ _ (by first | (simp; done) | (simp; omega) | omega)]; simp [go_sem, World.cell?_alloc_past, *]
  have hB2 : Below w.heap.size w w2 := (by (repeat (first | (with_reducible refine Below.drew ?_) | (with_reducible refine below_drewN ?_ _) | (with_reducible refine Below.alloc ?_ (by first | omega | (simp; done) | (simp; omega) | (simp at *; omega)) _) | (with_reducible refine Below.setCell ?_ (by first | omega | (simp; done) | (simp; omega) | (simp at *; omega)) _) | (with_reducible exact Below.refl _ _) | (with_reducible assumption) | (with_reducible refine Below.trans ?_ (Below.mono (by assumption) (by first | omega | (simp; done) | (simp; omega) | (simp at *; omega)))))))
  clear c1_0 c1_1 c1_2 c1_3 c1_4 c1_5 c1_6 c1_7 c1_8 c1_9 c1_10 c1_11 c1_12 c1_13 o1_0 n1_0 t1_0_1 t1_0_2 t1_0_3 o1_1 n1_1 t1_1_1 t1_1_2 t1_1_3 o1_2 n1_2 t1_2_1 t1_2_2 t1_2_3
  have o2_0 : w.heap.size < w2.heap.size := by omega
  have n2_0 : w2.heap.size ≠ w.heap.size := by omega
  have t2_0_1 : w.heap.size < w2.heap.size + 1 := by omega
  have t2_0_2 : w.heap.size < w2.heap.size + 1 + 1 := by omega
  have t2_0_3 : w.heap.size < w2.heap.size + 1 + 1 + 1 := by omega
  have o2_1 : w.heap.size + 1 < w2.heap.size := by omega
  have n2_1 : w2.heap.size ≠ w.heap.size + 1 := by omega
  have t2_1_1 : w.heap.size + 1 < w2.heap.size + 1 := by omega
  have t2_1_2 : w.heap.size + 1 < w2.heap.size + 1 + 1 := by omega
  have t2_1_3 : w.heap.size + 1 < w2.heap.size + 1 + 1 + 1 := by omega
  have o2_2 : w.heap.size + 2 < w2.heap.size := by omega
  have n2_2 : w2.heap.size ≠ w.heap.size + 2 := by omega
  have t2_2_1 : w.heap.size + 2 < w2.heap.size + 1 := by omega
  have t2_2_2 : w.heap.size + 2 < w2.heap.size + 1 + 1 := by omega
  have t2_2_3 : w.heap.size + 2 < w2.heap.size + 1 + 1 + 1 := by omega
  have b2 : w.heap.size ≤ w2.heap.size := by omega
  clear hbw2
  go_wp2_with fail
  refine (HLA.out _).mono ?_
  rintro e w3 ⟨rfl, hbw3⟩
  have z3 := hbw3.size
  try simp at z3
  have c3_0 : w3.cell? ⟨w.heap.size, 0, none⟩ = some (.slice A T.length cap) := by rw [(bcell hbw3).1 _ _ (by first | (simp; done) | (simp; omega) | omega)]; simp [go_sem, World.cell?_alloc_past, *]
  have c3_1 : w3.cell? ⟨w.heap.size, 1, none⟩ = some (.slice B L.length cap') := by rw [(bcell hbw3).1 _ _ (by first | (simp; done) | (simp; omega) | omega)]; simp [go_sem, World.cell?_alloc_past, *]
  have c3_2 : w3.cell? ⟨w.heap.size, 2, none⟩ = some (.int .i64 fr) := by rw [(bcell hbw3).1 _ _ (by first | (simp; done) | (simp; omega) | omega)]; simp [go_sem, World.cell?_alloc_past, *]
  have c3_3 : w3.cell? ⟨w.heap.size, 3, none⟩ = some (.int .i64 tz) := by rw [(bcell hbw3).1 _ _ (by first | (simp; done) | (simp; omega) | omega)]; simp [go_sem, World.cell?_alloc_past, *]
  have c3_4 : w3.cell? ⟨w.heap.size, 4, none⟩ = some (.int .i64 se) := by rw [(bcell hbw3).1 _ _ (by first | (simp; done) | (simp; omega) | omega)]; simp [go_sem, World.cell?_alloc_past, *]
  have c3_5 : w3.cell? ⟨w.heap.size, 5, none⟩ = some (.int .i64 o) := by rw [(bcell hbw3).1 _ _ (by first | (simp; done) | (simp; omega) | omega)]; simp [go_sem, World.cell?_alloc_past, *]
  have c3_6 : w3.cell? ⟨w.heap.size, 6, none⟩ = some (.int .i64 hh) := by rw [(bcell hbw3).1 _ _ (by first | (simp; done) | (simp; omega) | omega)]; simp [go_sem, World.cell?_alloc_past, *]
  have c3_7 : w3.cell? ⟨w.heap.size, 7, none⟩ = some (.int .i64 fi) := by rw [(bcell hbw3).1 _ _ (by first | (simp; done) | (simp; omega) | omega)]; simp [go_sem, World.cell?_alloc_past, *]
  have c3_8 : w3.cell? ⟨w.heap.size + 1, 0, none⟩ = some (.int .i64 n) := by rw [(bcell hbw3).1 _ _ (by first | (simp; done) | (simp; omega) | omega)]; simp [go_sem, World.cell?_alloc_past, *]
  have c3_9 : w3.cell? ⟨w.heap.size + 1, 1, none⟩ = some (.int .i64 h) := by rw [(bcell hbw3).1 _ _ (by first | (simp; done) | (simp; omega) | omega)]; simp [go_sem, World.cell?_alloc_past, *]
  have c3_10 : w3.cell? ⟨w.heap.size + 1, 2, none⟩ = some (.int .i64 b) := by rw [(bcell hbw3).1 _ _ (by first | (simp; done) | (simp; omega) | omega)]; simp [go_sem, World.cell?_alloc_past, *]
  have c3_11 : w3.cell? ⟨w.heap.size + 1, 3, none⟩ = some (.int .i64 s) := by rw [(bcell hbw3).1 _ _ (by first | (simp; done) | (simp; omega) | omega)]; simp [go_sem, World.cell?_alloc_past, *]
  have c3_12 : w3.cell? ⟨w.heap.size + 2, 0, none⟩ = some (.int .i64 p) := by rw [(bcell hbw3).1 _ _ (by first | (simp; done) | (simp; omega) | omega)]; simp [go_sem, World.cell?_alloc_past, *]
  have c3_13 : w3.cell? ⟨w.heap.size + 2, 1, none⟩ = some (.int .i64 f) := by rw [(bcell hbw3).1 _ _ (by first | (simp; done) | (simp; omega) | omega)]; simp [go_sem, World.cell?_alloc_past, *]
  have hB3 : Below w.heap.size w w3 := (by (repeat (first | (with_reducible refine Below.drew ?_) | (with_reducible refine below_drewN ?_ _) | (with_reducible refine Below.alloc ?_ (by first | omega | (simp; done) | (simp; omega) | (simp at *; omega)) _) | (with_reducible refine Below.setCell ?_ (by first | omega | (simp; done) | (simp; omega) | (simp at *; omega)) _) | (with_reducible exact Below.refl _ _) | (with_reducible assumption) | (with_reducible refine Below.trans ?_ (Below.mono (by assumption) (by first | omega | (simp; done) | (simp; omega) | (simp at *; omega)))))))
  clear c2_0 c2_1 c2_2 c2_3 c2_4 c2_5 c2_6 c2_7 c2_8 c2_9 c2_10 c2_11 c2_12 c2_13 o2_0 n2_0 t2_0_1 t2_0_2 t2_0_3 o2_1 n2_1 t2_1_1 t2_1_2 t2_1_3 o2_2 n2_2 t2_2_1 t2_2_2 t2_2_3
  have o3_0 : w.heap.size < w3.heap.size := by omega
  have n3_0 : w3.heap.size ≠ w.heap.size := by omega
  have t3_0_1 : w.heap.size < w3.heap.size + 1 := by omega
  have t3_0_2 : w.heap.size < w3.heap.size + 1 + 1 := by omega
  have t3_0_3 : w.heap.size < w3.heap.size + 1 + 1 + 1 := by omega
  have o3_1 : w.heap.size + 1 < w3.heap.size := by omega
  have n3_1 : w3.heap.size ≠ w.heap.size + 1 := by omega
  have t3_1_1 : w.heap.size + 1 < w3.heap.size + 1 := by omega
  have t3_1_2 : w.heap.size + 1 < w3.heap.size + 1 + 1 := by omega
  have t3_1_3 : w.heap.size + 1 < w3.heap.size + 1 + 1 + 1 := by omega
  have o3_2 : w.heap.size + 2 < w3.heap.size := by omega
  have n3_2 : w3.heap.size ≠ w.heap.size + 2 := by omega
  have t3_2_1 : w.heap.size + 2 < w3.heap.size + 1 := by omega
  have t3_2_2 : w.heap.size + 2 < w3.heap.size + 1 + 1 := by omega
  have t3_2_3 : w.heap.size + 2 < w3.heap.size + 1 + 1 + 1 := by omega
  have b3 : w.heap.size ≤ w3.heap.size := by omega
  clear hbw3
  go_upto_region 6 with (fail)
  refine wp_region_held_drew (S := (fun w' => w'.cell? ⟨w.heap.size, 0, none⟩ = some (.slice A T.length cap) ∧ w'.cell? ⟨w.heap.size, 1, none⟩ = some (.slice B L.length cap') ∧ w'.cell? ⟨w.heap.size + 2, 0, none⟩ = some (.int .i64 p) ∧ w'.cell? ⟨w.heap.size + 2, 1, none⟩ = some (.int .i64 f))) (by kernel_rfl) (by simp [go_sem, World.cell?_alloc_past, *]) (fun hHeld => ?_)
  refine wpAnyH_take (i := 0) (oi := ⟨some 28, _, _, _, _, _⟩) (v := ?_) rfl (by kernel_rfl) (by kernel_rfl) (by kernel_rfl) (fun _ _ _ h => h) (Or.inl ⟨by kernel_rfl, ?_⟩) (by assumption) ?_
  rotate_left
  · (intro w hSw; (try dsimp only at hSw); go_simp; all_goals with_reducible rfl)
  try simp only [Act.put, List.setIfInBounds_toArray, List.set_cons_zero, List.set_cons_succ]
  refine wpAnyH_take (i := 1) (oi := ⟨some 29, _, _, _, _, _⟩) (v := ?_) rfl (by kernel_rfl) (by kernel_rfl) (by kernel_rfl) (fun _ _ _ h => h) (Or.inl ⟨by kernel_rfl, ?_⟩) (by assumption) ?_
  rotate_left
  · (intro w hSw; (try dsimp only at hSw); go_simp; all_goals with_reducible rfl)
  try simp only [Act.put, List.setIfInBounds_toArray, List.set_cons_zero, List.set_cons_succ]
  refine wpAnyH_take (i := 3) (oi := ⟨some 31, _, _, _, _, _⟩) (v := ?_) rfl (by kernel_rfl) (by kernel_rfl) (by kernel_rfl) (fun _ _ _ h => h) (Or.inl ⟨by kernel_rfl, ?_⟩) (by assumption) ?_
  rotate_left
  · (intro w hSw; (try dsimp only at hSw); go_simp; all_goals with_reducible rfl)
  try simp only [Act.put, List.setIfInBounds_toArray, List.set_cons_zero, List.set_cons_succ]
  refine wpAnyH_take (i := 4) (oi := ⟨some 32, _, _, _, _, _⟩) (v := ?_) rfl (by kernel_rfl) (by kernel_rfl) (by kernel_rfl) (fun _ _ _ h => h) (Or.inl ⟨by kernel_rfl, ?_⟩) (by assumption) ?_
  rotate_left
  · (intro w hSw; (try dsimp only at hSw); go_simp; all_goals with_reducible rfl)
  try simp only [Act.put, List.setIfInBounds_toArray, List.set_cons_zero, List.set_cons_succ]
  refine wpAnyH_take (i := 6) (oi := ⟨some 34, _, _, _, _, _⟩) (v := ?_) rfl (by kernel_rfl) (by kernel_rfl) (by kernel_rfl) (fun _ _ _ h => h) (Or.inl ⟨by kernel_rfl, ?_⟩) (by assumption) ?_
  rotate_left
  · (intro w hSw; (try dsimp only at hSw); go_simp; all_goals with_reducible rfl)
  try simp only [Act.put, List.setIfInBounds_toArray, List.set_cons_zero, List.set_cons_succ]
  refine wpAnyH_ready (rs := [2]) (by kernel_rfl) (by simp) ?_
  refine AllReadyH.cons rfl (fun K hK => ?_) AllReadyH.nil
  go_simp
  refine (lawTable_any T A cap _ (by omega) HNA.out (HT.out.below (by exact (by (repeat (first | (with_reducible refine Below.drew ?_) | (with_reducible refine below_drewN ?_ _) | (with_reducible refine Below.alloc ?_ (by first | omega | (simp; done) | (simp; omega) | (simp at *; omega)) _) | (with_reducible refine Below.setCell ?_ (by first | omega | (simp; done) | (simp; omega) | (simp at *; omega)) _) | (with_reducible exact Below.refl _ _) | (with_reducible assumption) | (with_reducible refine Below.trans ?_ (Below.mono (by assumption) (by first | omega | (simp; done) | (simp; omega) | (simp at *; omega)))))))))).mono ?_
  rintro e x1 ⟨A2, cap2, rfl, hS2, _, hb1⟩
  have zx1 := hb1.size
  try simp at zx1
  have m0 : x1.cell? ⟨w.heap.size, 0, none⟩ = some (.slice A T.length cap) := (by rw [(bcell hb1).1 _ _ (by first | (simp; done) | (simp; omega) | omega)]; simp [go_sem, World.cell?_alloc_past, *])
  have m1 : x1.cell? ⟨w.heap.size, 1, none⟩ = some (.slice B L.length cap') := (by rw [(bcell hb1).1 _ _ (by first | (simp; done) | (simp; omega) | omega)]; simp [go_sem, World.cell?_alloc_past, *])
  have m2 : x1.cell? ⟨w.heap.size, 2, none⟩ = some (.int .i64 fr) := (by rw [(bcell hb1).1 _ _ (by first | (simp; done) | (simp; omega) | omega)]; simp [go_sem, World.cell?_alloc_past, *])
  have m3 : x1.cell? ⟨w.heap.size, 3, none⟩ = some (.int .i64 tz) := (by rw [(bcell hb1).1 _ _ (by first | (simp; done) | (simp; omega) | omega)]; simp [go_sem, World.cell?_alloc_past, *])
  have m4 : x1.cell? ⟨w.heap.size, 4, none⟩ = some (.int .i64 se) := (by rw [(bcell hb1).1 _ _ (by first | (simp; done) | (simp; omega) | omega)]; simp [go_sem, World.cell?_alloc_past, *])
  have m5 : x1.cell? ⟨w.heap.size, 5, none⟩ = some (.int .i64 o) := (by rw [(bcell hb1).1 _ _ (by first | (simp; done) | (simp; omega) | omega)]; simp [go_sem, World.cell?_alloc_past, *])
  have m6 : x1.cell? ⟨w.heap.size, 6, none⟩ = some (.int .i64 hh) := (by rw [(bcell hb1).1 _ _ (by first | (simp; done) | (simp; omega) | omega)]; simp [go_sem, World.cell?_alloc_past, *])
  have m7 : x1.cell? ⟨w.heap.size, 7, none⟩ = some (.int .i64 fi) := (by rw [(bcell hb1).1 _ _ (by first | (simp; done) | (simp; omega) | omega)]; simp [go_sem, World.cell?_alloc_past, *])
  have m8 : x1.cell? ⟨w.heap.size + 1, 0, none⟩ = some (.int .i64 n) := (by rw [(bcell hb1).1 _ _ (by first | (simp; done) | (simp; omega) | omega)]; simp [go_sem, World.cell?_alloc_past, *])
  have m9 : x1.cell? ⟨w.heap.size + 1, 1, none⟩ = some (.int .i64 h) := (by rw [(bcell hb1).1 _ _ (by first | (simp; done) | (simp; omega) | omega)]; simp [go_sem, World.cell?_alloc_past, *])
  have m10 : x1.cell? ⟨w.heap.size + 1, 2, none⟩ = some (.int .i64 b) := (by rw [(bcell hb1).1 _ _ (by first | (simp; done) | (simp; omega) | omega)]; simp [go_sem, World.cell?_alloc_past, *])
  have m11 : x1.cell? ⟨w.heap.size + 1, 3, none⟩ = some (.int .i64 s) := (by rw [(bcell hb1).1 _ _ (by first | (simp; done) | (simp; omega) | omega)]; simp [go_sem, World.cell?_alloc_past, *])
  have m12 : x1.cell? ⟨w.heap.size + 2, 0, none⟩ = some (.int .i64 p) := (by rw [(bcell hb1).1 _ _ (by first | (simp; done) | (simp; omega) | omega)]; simp [go_sem, World.cell?_alloc_past, *])
  have m13 : x1.cell? ⟨w.heap.size + 2, 1, none⟩ = some (.int .i64 f) := (by rw [(bcell hb1).1 _ _ (by first | (simp; done) | (simp; omega) | omega)]; simp [go_sem, World.cell?_alloc_past, *])
  have m14 : x1.cell? ⟨w3.heap.size, 0, none⟩ = some (.int .i64 0) := (by rw [(bcell hb1).1 _ _ (by first | (simp; done) | (simp; omega) | omega)]; simp [go_sem, World.cell?_alloc_past, *])
  have m15 : x1.cell? ⟨w3.heap.size, 1, none⟩ = some (.int .i64 0) := (by rw [(bcell hb1).1 _ _ (by first | (simp; done) | (simp; omega) | omega)]; simp [go_sem, World.cell?_alloc_past, *])
  have HS2 := Lib.hid hS2
  have hX1 : Below w.heap.size w x1 := (by (repeat (first | (with_reducible refine Below.drew ?_) | (with_reducible refine below_drewN ?_ _) | (with_reducible refine Below.alloc ?_ (by first | omega | (simp; done) | (simp; omega) | (simp at *; omega)) _) | (with_reducible refine Below.setCell ?_ (by first | omega | (simp; done) | (simp; omega) | (simp at *; omega)) _) | (with_reducible exact Below.refl _ _) | (with_reducible assumption) | (with_reducible refine Below.trans ?_ (Below.mono (by assumption) (by first | omega | (simp; done) | (simp; omega) | (simp at *; omega)))))))
  have zz1 := hX1.size
  clear hS2 hb1
  have mo0 : w.heap.size < x1.heap.size := by omega
  have mn0 : x1.heap.size ≠ w.heap.size := by omega
  have mo1 : w.heap.size + 1 < x1.heap.size := by omega
  have mn1 : x1.heap.size ≠ w.heap.size + 1 := by omega
  have mo2 : w.heap.size + 2 < x1.heap.size := by omega
  have mn2 : x1.heap.size ≠ w.heap.size + 2 := by omega
  have mo3 : w3.heap.size < x1.heap.size := by omega
  have mn3 : x1.heap.size ≠ w3.heap.size := by omega
  go_wp2_with fail
  refine hK.out _ _ (by simp [go_sem, World.cell?_alloc_past, *]) (fun hHeld => ?_)
  clear hK K
  try simp only [Act.put, List.setIfInBounds_toArray, List.set_cons_zero, List.set_cons_succ]
  refine wpAnyH_ready (rs := [5]) (by kernel_rfl) (by simp) ?_
  refine AllReadyH.cons rfl (fun K hK => ?_) AllReadyH.nil
  go_simp
  refine (lawLoads_any L B cap' _ (by omega) HNB.out (HL.out.below (by exact (by (repeat (first | (with_reducible refine Below.drew ?_) | (with_reducible refine below_drewN ?_ _) | (with_reducible refine Below.alloc ?_ (by first | omega | (simp; done) | (simp; omega) | (simp at *; omega)) _) | (with_reducible refine Below.setCell ?_ (by first | omega | (simp; done) | (simp; omega) | (simp at *; omega)) _) | (with_reducible exact Below.refl _ _) | (with_reducible assumption) | (with_reducible refine Below.trans ?_ (Below.mono (by assumption) (by first | omega | (simp; done) | (simp; omega) | (simp at *; omega)))))))))).mono ?_
  rintro e x2 ⟨A3, cap3, rfl, hS3, _, hb2⟩
  have zx2 := hb2.size
  try simp at zx2
  have k0 : x2.cell? ⟨w.heap.size, 0, none⟩ = some (.slice A T.length cap) := (by rw [(bcell hb2).1 _ _ (by first | (simp; done) | (simp; omega) | omega)]; simp [go_sem, World.cell?_alloc_past, *])
  have k1 : x2.cell? ⟨w.heap.size, 1, none⟩ = some (.slice B L.length cap') := (by rw [(bcell hb2).1 _ _ (by first | (simp; done) | (simp; omega) | omega)]; simp [go_sem, World.cell?_alloc_past, *])
  have k2 : x2.cell? ⟨w.heap.size, 2, none⟩ = some (.int .i64 fr) := (by rw [(bcell hb2).1 _ _ (by first | (simp; done) | (simp; omega) | omega)]; simp [go_sem, World.cell?_alloc_past, *])
  have k3 : x2.cell? ⟨w.heap.size, 3, none⟩ = some (.int .i64 tz) := (by rw [(bcell hb2).1 _ _ (by first | (simp; done) | (simp; omega) | omega)]; simp [go_sem, World.cell?_alloc_past, *])
  have k4 : x2.cell? ⟨w.heap.size, 4, none⟩ = some (.int .i64 se) := (by rw [(bcell hb2).1 _ _ (by first | (simp; done) | (simp; omega) | omega)]; simp [go_sem, World.cell?_alloc_past, *])
  have k5 : x2.cell? ⟨w.heap.size, 5, none⟩ = some (.int .i64 o) := (by rw [(bcell hb2).1 _ _ (by first | (simp; done) | (simp; omega) | omega)]; simp [go_sem, World.cell?_alloc_past, *])
  have k6 : x2.cell? ⟨w.heap.size, 6, none⟩ = some (.int .i64 hh) := (by rw [(bcell hb2).1 _ _ (by first | (simp; done) | (simp; omega) | omega)]; simp [go_sem, World.cell?_alloc_past, *])
  have k7 : x2.cell? ⟨w.heap.size, 7, none⟩ = some (.int .i64 fi) := (by rw [(bcell hb2).1 _ _ (by first | (simp; done) | (simp; omega) | omega)]; simp [go_sem, World.cell?_alloc_past, *])
  have k8 : x2.cell? ⟨w.heap.size + 1, 0, none⟩ = some (.int .i64 n) := (by rw [(bcell hb2).1 _ _ (by first | (simp; done) | (simp; omega) | omega)]; simp [go_sem, World.cell?_alloc_past, *])
  have k9 : x2.cell? ⟨w.heap.size + 1, 1, none⟩ = some (.int .i64 h) := (by rw [(bcell hb2).1 _ _ (by first | (simp; done) | (simp; omega) | omega)]; simp [go_sem, World.cell?_alloc_past, *])
  have k10 : x2.cell? ⟨w.heap.size + 1, 2, none⟩ = some (.int .i64 b) := (by rw [(bcell hb2).1 _ _ (by first | (simp; done) | (simp; omega) | omega)]; simp [go_sem, World.cell?_alloc_past, *])
  have k11 : x2.cell? ⟨w.heap.size + 1, 3, none⟩ = some (.int .i64 s) := (by rw [(bcell hb2).1 _ _ (by first | (simp; done) | (simp; omega) | omega)]; simp [go_sem, World.cell?_alloc_past, *])
  have k12 : x2.cell? ⟨w.heap.size + 2, 0, none⟩ = some (.int .i64 p) := (by rw [(bcell hb2).1 _ _ (by first | (simp; done) | (simp; omega) | omega)]; simp [go_sem, World.cell?_alloc_past, *])
  have k13 : x2.cell? ⟨w.heap.size + 2, 1, none⟩ = some (.int .i64 f) := (by rw [(bcell hb2).1 _ _ (by first | (simp; done) | (simp; omega) | omega)]; simp [go_sem, World.cell?_alloc_past, *])
  have k14 : x2.cell? ⟨w3.heap.size, 0, none⟩ = some (.int .i64 0) := (by rw [(bcell hb2).1 _ _ (by first | (simp; done) | (simp; omega) | omega)]; simp [go_sem, World.cell?_alloc_past, *])
  have k15 : x2.cell? ⟨w3.heap.size, 1, none⟩ = some (.int .i64 0) := (by rw [(bcell hb2).1 _ _ (by first | (simp; done) | (simp; omega) | omega)]; simp [go_sem, World.cell?_alloc_past, *])
  have HS3 := Lib.hid hS3
  have HS4 := Lib.hid (HS2.out.below hb2)
  have hX2 : Below w.heap.size w x2 := (by (repeat (first | (with_reducible refine Below.drew ?_) | (with_reducible refine below_drewN ?_ _) | (with_reducible refine Below.alloc ?_ (by first | omega | (simp; done) | (simp; omega) | (simp at *; omega)) _) | (with_reducible refine Below.setCell ?_ (by first | omega | (simp; done) | (simp; omega) | (simp at *; omega)) _) | (with_reducible exact Below.refl _ _) | (with_reducible assumption) | (with_reducible refine Below.trans ?_ (Below.mono (by assumption) (by first | omega | (simp; done) | (simp; omega) | (simp at *; omega)))))))
  have zz2 := hX2.size
  clear hS3 hb2 HS2 hX1 m0 m1 m2 m3 m4 m5 m6 m7 m8 m9 m10 m11 m12 m13 m14 m15 mo0 mo1 mo2 mo3 mn0 mn1 mn2 mn3
  have ko0 : w.heap.size < x2.heap.size := by omega
  have kn0 : x2.heap.size ≠ w.heap.size := by omega
  have ko1 : w.heap.size + 1 < x2.heap.size := by omega
  have kn1 : x2.heap.size ≠ w.heap.size + 1 := by omega
  have ko2 : w.heap.size + 2 < x2.heap.size := by omega
  have kn2 : x2.heap.size ≠ w.heap.size + 2 := by omega
  have ko3 : w3.heap.size < x2.heap.size := by omega
  have kn3 : x2.heap.size ≠ w3.heap.size := by omega
  go_wp2_with fail
  refine hK.out _ _ (by simp [go_sem, World.cell?_alloc_past, *]) (fun hHeld => ?_)
  clear hK K
  try simp only [Act.put, List.setIfInBounds_toArray, List.set_cons_zero, List.set_cons_succ]
  refine wpAnyH_ready (rs := [7]) (by kernel_rfl) (by simp) ?_
  refine AllReadyH.cons rfl (fun K hK => ?_) AllReadyH.nil
  go_simp
  refine (KeptAt_x T L A2 A3 cap2 cap3 p f k g _ (by omega) (by omega) hk hg (Lib.hid (HS4.out.below (by exact (by (repeat (first | (with_reducible refine Below.drew ?_) | (with_reducible refine below_drewN ?_ _) | (with_reducible refine Below.alloc ?_ (by first | omega | (simp; done) | (simp; omega) | (simp at *; omega)) _) | (with_reducible refine Below.setCell ?_ (by first | omega | (simp; done) | (simp; omega) | (simp at *; omega)) _) | (with_reducible exact Below.refl _ _) | (with_reducible assumption) | (with_reducible refine Below.trans ?_ (Below.mono (by assumption) (by first | omega | (simp; done) | (simp; omega) | (simp at *; omega)))))))))) (Lib.hid (HS3.out.below (by exact (by (repeat (first | (with_reducible refine Below.drew ?_) | (with_reducible refine below_drewN ?_ _) | (with_reducible refine Below.alloc ?_ (by first | omega | (simp; done) | (simp; omega) | (simp at *; omega)) _) | (with_reducible refine Below.setCell ?_ (by first | omega | (simp; done) | (simp; omega) | (simp at *; omega)) _) | (with_reducible exact Below.refl _ _) | (with_reducible assumption) | (with_reducible refine Below.trans ?_ (Below.mono (by assumption) (by first | omega | (simp; done) | (simp; omega) | (simp at *; omega))))))))))).mono ?_
  rintro e x3 ⟨rfl, hb3⟩
  have zx3 := hb3.size
  try simp at zx3
  have j0 : x3.cell? ⟨w.heap.size, 0, none⟩ = some (.slice A T.length cap) := (by rw [(bcell hb3).1 _ _ (by first | (simp; done) | (simp; omega) | omega)]; simp [go_sem, World.cell?_alloc_past, *])
  have j1 : x3.cell? ⟨w.heap.size, 1, none⟩ = some (.slice B L.length cap') := (by rw [(bcell hb3).1 _ _ (by first | (simp; done) | (simp; omega) | omega)]; simp [go_sem, World.cell?_alloc_past, *])
  have j2 : x3.cell? ⟨w.heap.size, 2, none⟩ = some (.int .i64 fr) := (by rw [(bcell hb3).1 _ _ (by first | (simp; done) | (simp; omega) | omega)]; simp [go_sem, World.cell?_alloc_past, *])
  have j3 : x3.cell? ⟨w.heap.size, 3, none⟩ = some (.int .i64 tz) := (by rw [(bcell hb3).1 _ _ (by first | (simp; done) | (simp; omega) | omega)]; simp [go_sem, World.cell?_alloc_past, *])
  have j4 : x3.cell? ⟨w.heap.size, 4, none⟩ = some (.int .i64 se) := (by rw [(bcell hb3).1 _ _ (by first | (simp; done) | (simp; omega) | omega)]; simp [go_sem, World.cell?_alloc_past, *])
  have j5 : x3.cell? ⟨w.heap.size, 5, none⟩ = some (.int .i64 o) := (by rw [(bcell hb3).1 _ _ (by first | (simp; done) | (simp; omega) | omega)]; simp [go_sem, World.cell?_alloc_past, *])
  have j6 : x3.cell? ⟨w.heap.size, 6, none⟩ = some (.int .i64 hh) := (by rw [(bcell hb3).1 _ _ (by first | (simp; done) | (simp; omega) | omega)]; simp [go_sem, World.cell?_alloc_past, *])
  have j7 : x3.cell? ⟨w.heap.size, 7, none⟩ = some (.int .i64 fi) := (by rw [(bcell hb3).1 _ _ (by first | (simp; done) | (simp; omega) | omega)]; simp [go_sem, World.cell?_alloc_past, *])
  have j8 : x3.cell? ⟨w.heap.size + 1, 0, none⟩ = some (.int .i64 n) := (by rw [(bcell hb3).1 _ _ (by first | (simp; done) | (simp; omega) | omega)]; simp [go_sem, World.cell?_alloc_past, *])
  have j9 : x3.cell? ⟨w.heap.size + 1, 1, none⟩ = some (.int .i64 h) := (by rw [(bcell hb3).1 _ _ (by first | (simp; done) | (simp; omega) | omega)]; simp [go_sem, World.cell?_alloc_past, *])
  have j10 : x3.cell? ⟨w.heap.size + 1, 2, none⟩ = some (.int .i64 b) := (by rw [(bcell hb3).1 _ _ (by first | (simp; done) | (simp; omega) | omega)]; simp [go_sem, World.cell?_alloc_past, *])
  have j11 : x3.cell? ⟨w.heap.size + 1, 3, none⟩ = some (.int .i64 s) := (by rw [(bcell hb3).1 _ _ (by first | (simp; done) | (simp; omega) | omega)]; simp [go_sem, World.cell?_alloc_past, *])
  have j12 : x3.cell? ⟨w.heap.size + 2, 0, none⟩ = some (.int .i64 p) := (by rw [(bcell hb3).1 _ _ (by first | (simp; done) | (simp; omega) | omega)]; simp [go_sem, World.cell?_alloc_past, *])
  have j13 : x3.cell? ⟨w.heap.size + 2, 1, none⟩ = some (.int .i64 f) := (by rw [(bcell hb3).1 _ _ (by first | (simp; done) | (simp; omega) | omega)]; simp [go_sem, World.cell?_alloc_past, *])
  have j14 : x3.cell? ⟨w3.heap.size, 0, none⟩ = some (.int .i64 0) := (by rw [(bcell hb3).1 _ _ (by first | (simp; done) | (simp; omega) | omega)]; simp [go_sem, World.cell?_alloc_past, *])
  have j15 : x3.cell? ⟨w3.heap.size, 1, none⟩ = some (.int .i64 0) := (by rw [(bcell hb3).1 _ _ (by first | (simp; done) | (simp; omega) | omega)]; simp [go_sem, World.cell?_alloc_past, *])
  have hX3 : Below w.heap.size w x3 := (by (repeat (first | (with_reducible refine Below.drew ?_) | (with_reducible refine below_drewN ?_ _) | (with_reducible refine Below.alloc ?_ (by first | omega | (simp; done) | (simp; omega) | (simp at *; omega)) _) | (with_reducible refine Below.setCell ?_ (by first | omega | (simp; done) | (simp; omega) | (simp at *; omega)) _) | (with_reducible exact Below.refl _ _) | (with_reducible assumption) | (with_reducible refine Below.trans ?_ (Below.mono (by assumption) (by first | omega | (simp; done) | (simp; omega) | (simp at *; omega)))))))
  have zz3 := hX3.size
  clear hb3 HS3 HS4 hX2 k0 k1 k2 k3 k4 k5 k6 k7 k8 k9 k10 k11 k12 k13 k14 k15 ko0 ko1 ko2 ko3 kn0 kn1 kn2 kn3
  have jo0 : w.heap.size < x3.heap.size := by omega
  have jn0 : x3.heap.size ≠ w.heap.size := by omega
  have jo1 : w.heap.size + 1 < x3.heap.size := by omega
  have jn1 : x3.heap.size ≠ w.heap.size + 1 := by omega
  have jo2 : w.heap.size + 2 < x3.heap.size := by omega
  have jn2 : x3.heap.size ≠ w.heap.size + 2 := by omega
  have jo3 : w3.heap.size < x3.heap.size := by omega
  have jn3 : x3.heap.size ≠ w3.heap.size := by omega
  go_wp2_with fail
  refine hK.out _ _ (by simp [go_sem, World.cell?_alloc_past, *]) (fun hHeld => ?_)
  clear hK K
  try simp only [Act.put, List.setIfInBounds_toArray, List.set_cons_zero, List.set_cons_succ]
  refine wpAnyH_take (i := 8) (oi := ⟨some 27, _, _, _, _, _⟩) (v := ?_) rfl (by kernel_rfl) (by kernel_rfl) (by kernel_rfl) (fun _ _ _ h => h) (Or.inl ⟨by kernel_rfl, ?_⟩) (by assumption) ?_
  rotate_left
  · (intro w hSw; (try dsimp only at hSw); go_simp; all_goals with_reducible rfl)
  try simp only [Act.put, List.setIfInBounds_toArray, List.set_cons_zero, List.set_cons_succ]
  refine wpAnyH_take (i := 9) (oi := ⟨some 36, _, _, _, _, _⟩) (v := ?_) rfl (by kernel_rfl) (by kernel_rfl) (by kernel_rfl) (fun _ _ _ h => h) (Or.inl ⟨by kernel_rfl, ?_⟩) (by assumption) ?_
  rotate_left
  · (intro w hSw; (try dsimp only at hSw); go_simp; all_goals with_reducible rfl)
  try simp only [Act.put, List.setIfInBounds_toArray, List.set_cons_zero, List.set_cons_succ]
  refine wpAnyH_take (i := 10) (oi := ⟨some 37, _, _, _, _, _⟩) (v := ?_) rfl (by kernel_rfl) (by kernel_rfl) (by kernel_rfl) (fun _ _ _ h => h) (Or.inl ⟨by kernel_rfl, ?_⟩) (by assumption) ?_
  rotate_left
  · (intro w hSw; (try dsimp only at hSw); go_simp; all_goals with_reducible rfl)
  try simp only [Act.put, List.setIfInBounds_toArray, List.set_cons_zero, List.set_cons_succ]
  refine wpAnyH_take (i := 11) (oi := ⟨some 9, _, _, _, _, _⟩) (v := ?_) rfl (by kernel_rfl) (by kernel_rfl) (by kernel_rfl) (fun _ _ _ h => h) (Or.inl ⟨by kernel_rfl, ?_⟩) (by assumption) ?_
  rotate_left
  · (intro w hSw; (try dsimp only at hSw); go_simp; all_goals with_reducible rfl)
  try simp only [Act.put, List.setIfInBounds_toArray, List.set_cons_zero, List.set_cons_succ]
  refine wpAnyH_take (i := 12) (oi := ⟨some 10, _, _, _, _, _⟩) (v := ?_) rfl (by kernel_rfl) (by kernel_rfl) (by kernel_rfl) (fun _ _ _ h => h) (Or.inl ⟨by kernel_rfl, ?_⟩) (by assumption) ?_
  rotate_left
  · (intro w hSw; (try dsimp only at hSw); go_simp; all_goals with_reducible rfl)
  try simp only [Act.put, List.setIfInBounds_toArray, List.set_cons_zero, List.set_cons_succ]
  refine wpAnyH_done (by kernel_rfl) ?_ _
  clear c3_0 c3_1 c3_2 c3_3 c3_4 c3_5 c3_6 c3_7 c3_8 c3_9 c3_10 c3_11 c3_12 c3_13 o3_0 n3_0 t3_0_1 t3_0_2 t3_0_3 o3_1 n3_1 t3_1_1 t3_1_2 t3_1_3 o3_2 n3_2 t3_2_1 t3_2_2 t3_2_3
  go_wp2_with (first | (go_at_call 29; ((with_reducible refine (HP.out _).mono ?_)); rintro e w' ⟨rfl, rfl⟩))
  refine (HC.out _).mono ?_
  rintro e x4 ⟨rfl, hb4⟩
  have zx4 := hb4.size
  try simp at zx4
  have i0 : x4.cell? ⟨w.heap.size, 0, none⟩ = some (.slice A T.length cap) := (by rw [(bcell hb4).1 _ _ (by first | (simp; done) | (simp; omega) | omega)]; simp [go_sem, World.cell?_alloc_past, *])
  have i1 : x4.cell? ⟨w.heap.size, 1, none⟩ = some (.slice B L.length cap') := (by rw [(bcell hb4).1 _ _ (by first | (simp; done) | (simp; omega) | omega)]; simp [go_sem, World.cell?_alloc_past, *])
  have i2 : x4.cell? ⟨w.heap.size, 2, none⟩ = some (.int .i64 fr) := (by rw [(bcell hb4).1 _ _ (by first | (simp; done) | (simp; omega) | omega)]; simp [go_sem, World.cell?_alloc_past, *])
  have i3 : x4.cell? ⟨w.heap.size, 3, none⟩ = some (.int .i64 tz) := (by rw [(bcell hb4).1 _ _ (by first | (simp; done) | (simp; omega) | omega)]; simp [go_sem, World.cell?_alloc_past, *])
  have i4 : x4.cell? ⟨w.heap.size, 4, none⟩ = some (.int .i64 se) := (by rw [(bcell hb4).1 _ _ (by first | (simp; done) | (simp; omega) | omega)]; simp [go_sem, World.cell?_alloc_past, *])
  have i5 : x4.cell? ⟨w.heap.size, 5, none⟩ = some (.int .i64 o) := (by rw [(bcell hb4).1 _ _ (by first | (simp; done) | (simp; omega) | omega)]; simp [go_sem, World.cell?_alloc_past, *])
  have i6 : x4.cell? ⟨w.heap.size, 6, none⟩ = some (.int .i64 hh) := (by rw [(bcell hb4).1 _ _ (by first | (simp; done) | (simp; omega) | omega)]; simp [go_sem, World.cell?_alloc_past, *])
  have i7 : x4.cell? ⟨w.heap.size, 7, none⟩ = some (.int .i64 fi) := (by rw [(bcell hb4).1 _ _ (by first | (simp; done) | (simp; omega) | omega)]; simp [go_sem, World.cell?_alloc_past, *])
  have i8 : x4.cell? ⟨w.heap.size + 1, 0, none⟩ = some (.int .i64 n) := (by rw [(bcell hb4).1 _ _ (by first | (simp; done) | (simp; omega) | omega)]; simp [go_sem, World.cell?_alloc_past, *])
  have i9 : x4.cell? ⟨w.heap.size + 1, 1, none⟩ = some (.int .i64 h) := (by rw [(bcell hb4).1 _ _ (by first | (simp; done) | (simp; omega) | omega)]; simp [go_sem, World.cell?_alloc_past, *])
  have i10 : x4.cell? ⟨w.heap.size + 1, 2, none⟩ = some (.int .i64 b) := (by rw [(bcell hb4).1 _ _ (by first | (simp; done) | (simp; omega) | omega)]; simp [go_sem, World.cell?_alloc_past, *])
  have i11 : x4.cell? ⟨w.heap.size + 1, 3, none⟩ = some (.int .i64 s) := (by rw [(bcell hb4).1 _ _ (by first | (simp; done) | (simp; omega) | omega)]; simp [go_sem, World.cell?_alloc_past, *])
  have i12 : x4.cell? ⟨w.heap.size + 2, 0, none⟩ = some (.int .i64 p) := (by rw [(bcell hb4).1 _ _ (by first | (simp; done) | (simp; omega) | omega)]; simp [go_sem, World.cell?_alloc_past, *])
  have i13 : x4.cell? ⟨w.heap.size + 2, 1, none⟩ = some (.int .i64 f) := (by rw [(bcell hb4).1 _ _ (by first | (simp; done) | (simp; omega) | omega)]; simp [go_sem, World.cell?_alloc_past, *])
  have i14 : x4.cell? ⟨w3.heap.size, 0, none⟩ = some (.int .i64 0) := (by rw [(bcell hb4).1 _ _ (by first | (simp; done) | (simp; omega) | omega)]; simp [go_sem, World.cell?_alloc_past, *])
  have i15 : x4.cell? ⟨w3.heap.size, 1, none⟩ = some (.int .i64 0) := (by rw [(bcell hb4).1 _ _ (by first | (simp; done) | (simp; omega) | omega)]; simp [go_sem, World.cell?_alloc_past, *])
  have hX4 : Below w.heap.size w x4 := (by (repeat (first | (with_reducible refine Below.drew ?_) | (with_reducible refine below_drewN ?_ _) | (with_reducible refine Below.alloc ?_ (by first | omega | (simp; done) | (simp; omega) | (simp at *; omega)) _) | (with_reducible refine Below.setCell ?_ (by first | omega | (simp; done) | (simp; omega) | (simp at *; omega)) _) | (with_reducible exact Below.refl _ _) | (with_reducible assumption) | (with_reducible refine Below.trans ?_ (Below.mono (by assumption) (by first | omega | (simp; done) | (simp; omega) | (simp at *; omega)))))))
  have zz4 := hX4.size
  clear hb4 hX3 j0 j1 j2 j3 j4 j5 j6 j7 j8 j9 j10 j11 j12 j13 j14 j15 jo0 jo1 jo2 jo3 jn0 jn1 jn2 jn3
  have io0 : w.heap.size < x4.heap.size := by omega
  have in0 : x4.heap.size ≠ w.heap.size := by omega
  have io1 : w.heap.size + 1 < x4.heap.size := by omega
  have in1 : x4.heap.size ≠ w.heap.size + 1 := by omega
  have io2 : w.heap.size + 2 < x4.heap.size := by omega
  have in2 : x4.heap.size ≠ w.heap.size + 2 := by omega
  have io3 : w3.heap.size < x4.heap.size := by omega
  have in3 : x4.heap.size ≠ w3.heap.size := by omega
  go_wp2_with fail
  refine (refCheckLoads_is T L A B cap cap' q _ hl hl' hq (HT.out.below (by exact (by (repeat (first | (with_reducible refine Below.drew ?_) | (with_reducible refine below_drewN ?_ _) | (with_reducible refine Below.alloc ?_ (by first | omega | (simp; done) | (simp; omega) | (simp at *; omega)) _) | (with_reducible refine Below.setCell ?_ (by first | omega | (simp; done) | (simp; omega) | (simp at *; omega)) _) | (with_reducible exact Below.refl _ _) | (with_reducible assumption) | (with_reducible refine Below.trans ?_ (Below.mono (by assumption) (by first | omega | (simp; done) | (simp; omega) | (simp at *; omega))))))))) (HL.out.below (by exact (by (repeat (first | (with_reducible refine Below.drew ?_) | (with_reducible refine below_drewN ?_ _) | (with_reducible refine Below.alloc ?_ (by first | omega | (simp; done) | (simp; omega) | (simp at *; omega)) _) | (with_reducible refine Below.setCell ?_ (by first | omega | (simp; done) | (simp; omega) | (simp at *; omega)) _) | (with_reducible exact Below.refl _ _) | (with_reducible assumption) | (with_reducible refine Below.trans ?_ (Below.mono (by assumption) (by first | omega | (simp; done) | (simp; omega) | (simp at *; omega)))))))))).mono ?_
  rintro e x6 ⟨rfl, hb6⟩
  have zx6 := hb6.size
  try simp at zx6
  have l0 : x6.cell? ⟨w.heap.size, 0, none⟩ = some (.slice A T.length cap) := (by rw [(bcell hb6).1 _ _ (by first | (simp; done) | (simp; omega) | omega)]; simp [go_sem, World.cell?_alloc_past, *])
  have l1 : x6.cell? ⟨w.heap.size, 1, none⟩ = some (.slice B L.length cap') := (by rw [(bcell hb6).1 _ _ (by first | (simp; done) | (simp; omega) | omega)]; simp [go_sem, World.cell?_alloc_past, *])
  have l2 : x6.cell? ⟨w.heap.size, 2, none⟩ = some (.int .i64 fr) := (by rw [(bcell hb6).1 _ _ (by first | (simp; done) | (simp; omega) | omega)]; simp [go_sem, World.cell?_alloc_past, *])
  have l3 : x6.cell? ⟨w.heap.size, 3, none⟩ = some (.int .i64 tz) := (by rw [(bcell hb6).1 _ _ (by first | (simp; done) | (simp; omega) | omega)]; simp [go_sem, World.cell?_alloc_past, *])
  have l4 : x6.cell? ⟨w.heap.size, 4, none⟩ = some (.int .i64 se) := (by rw [(bcell hb6).1 _ _ (by first | (simp; done) | (simp; omega) | omega)]; simp [go_sem, World.cell?_alloc_past, *])
  have l5 : x6.cell? ⟨w.heap.size, 5, none⟩ = some (.int .i64 o) := (by rw [(bcell hb6).1 _ _ (by first | (simp; done) | (simp; omega) | omega)]; simp [go_sem, World.cell?_alloc_past, *])
  have l6 : x6.cell? ⟨w.heap.size, 6, none⟩ = some (.int .i64 hh) := (by rw [(bcell hb6).1 _ _ (by first | (simp; done) | (simp; omega) | omega)]; simp [go_sem, World.cell?_alloc_past, *])
  have l7 : x6.cell? ⟨w.heap.size, 7, none⟩ = some (.int .i64 fi) := (by rw [(bcell hb6).1 _ _ (by first | (simp; done) | (simp; omega) | omega)]; simp [go_sem, World.cell?_alloc_past, *])
  have l8 : x6.cell? ⟨w.heap.size + 1, 0, none⟩ = some (.int .i64 n) := (by rw [(bcell hb6).1 _ _ (by first | (simp; done) | (simp; omega) | omega)]; simp [go_sem, World.cell?_alloc_past, *])
  have l9 : x6.cell? ⟨w.heap.size + 1, 1, none⟩ = some (.int .i64 h) := (by rw [(bcell hb6).1 _ _ (by first | (simp; done) | (simp; omega) | omega)]; simp [go_sem, World.cell?_alloc_past, *])
  have l10 : x6.cell? ⟨w.heap.size + 1, 2, none⟩ = some (.int .i64 b) := (by rw [(bcell hb6).1 _ _ (by first | (simp; done) | (simp; omega) | omega)]; simp [go_sem, World.cell?_alloc_past, *])
  have l11 : x6.cell? ⟨w.heap.size + 1, 3, none⟩ = some (.int .i64 s) := (by rw [(bcell hb6).1 _ _ (by first | (simp; done) | (simp; omega) | omega)]; simp [go_sem, World.cell?_alloc_past, *])
  have l12 : x6.cell? ⟨w.heap.size + 2, 0, none⟩ = some (.int .i64 p) := (by rw [(bcell hb6).1 _ _ (by first | (simp; done) | (simp; omega) | omega)]; simp [go_sem, World.cell?_alloc_past, *])
  have l13 : x6.cell? ⟨w.heap.size + 2, 1, none⟩ = some (.int .i64 f) := (by rw [(bcell hb6).1 _ _ (by first | (simp; done) | (simp; omega) | omega)]; simp [go_sem, World.cell?_alloc_past, *])
  have l14 : x6.cell? ⟨w3.heap.size, 0, none⟩ = some (.int .i64 0) := (by rw [(bcell hb6).1 _ _ (by first | (simp; done) | (simp; omega) | omega)]; simp [go_sem, World.cell?_alloc_past, *])
  have l15 : x6.cell? ⟨w3.heap.size, 1, none⟩ = some (.int .i64 0) := (by rw [(bcell hb6).1 _ _ (by first | (simp; done) | (simp; omega) | omega)]; simp [go_sem, World.cell?_alloc_past, *])
  have hX6 : Below w.heap.size w x6 := (by (repeat (first | (with_reducible refine Below.drew ?_) | (with_reducible refine below_drewN ?_ _) | (with_reducible refine Below.alloc ?_ (by first | omega | (simp; done) | (simp; omega) | (simp at *; omega)) _) | (with_reducible refine Below.setCell ?_ (by first | omega | (simp; done) | (simp; omega) | (simp at *; omega)) _) | (with_reducible exact Below.refl _ _) | (with_reducible assumption) | (with_reducible refine Below.trans ?_ (Below.mono (by assumption) (by first | omega | (simp; done) | (simp; omega) | (simp at *; omega)))))))
  have zz6 := hX6.size
  clear hb6 i0 i1 i2 i3 i4 i5 i6 i7 i8 i9 i10 i11 i12 i13 i14 i15 io0 io1 io2 io3 in0 in1 in2 in3
  have lo0 : w.heap.size < x6.heap.size := by omega
  have ln0 : x6.heap.size ≠ w.heap.size := by omega
  have lo1 : w.heap.size + 1 < x6.heap.size := by omega
  have ln1 : x6.heap.size ≠ w.heap.size + 1 := by omega
  have lo2 : w.heap.size + 2 < x6.heap.size := by omega
  have ln2 : x6.heap.size ≠ w.heap.size + 2 := by omega
  have lo3 : w3.heap.size < x6.heap.size := by omega
  have ln3 : x6.heap.size ≠ w3.heap.size := by omega
  rcases ez2 q with ⟨hz0, hzb⟩ | ⟨hz0, hzb⟩
  · have hgv : g = 2 := by rw [← hg.out]; exact keptE_2 (by rw [hq.out]; exact hz0.out) (Or.inl HPP.out)
    have hkv : k = 0 := by rw [← hk.out, keptV, if_neg (by rw [hg.out, hgv]; decide)]
    subst hgv hkv
    clear hz0
    go_wp2
    go_ret
    exact ⟨by first | rfl | simp, (by (repeat (first | (with_reducible refine Below.drew ?_) | (with_reducible refine below_drewN ?_ _) | (with_reducible refine Below.alloc ?_ (by first | omega | (simp; done) | (simp; omega) | (simp at *; omega)) _) | (with_reducible refine Below.setCell ?_ (by first | omega | (simp; done) | (simp; omega) | (simp at *; omega)) _) | (with_reducible exact Below.refl _ _) | (with_reducible assumption) | (with_reducible refine Below.trans ?_ (Below.mono (by assumption) (by first | omega | (simp; done) | (simp; omega) | (simp at *; omega)))))))⟩
  · have hgv : g = q := by rw [← hg.out]; exact keptE_q hq.out hz0.out
    have hkv : k = 0 := by rw [← hk.out, keptV, if_neg (by rw [hg.out, hgv]; exact hz0.out)]
    subst hgv hkv
    clear hz0
    go_wp2
    go_ret
    exact ⟨by first | rfl | simp, (by (repeat (first | (with_reducible refine Below.drew ?_) | (with_reducible refine below_drewN ?_ _) | (with_reducible refine Below.alloc ?_ (by first | omega | (simp; done) | (simp; omega) | (simp at *; omega)) _) | (with_reducible refine Below.setCell ?_ (by first | omega | (simp; done) | (simp; omega) | (simp at *; omega)) _) | (with_reducible exact Below.refl _ _) | (with_reducible assumption) | (with_reducible refine Below.trans ?_ (Below.mono (by assumption) (by first | omega | (simp; done) | (simp; omega) | (simp at *; omega)))))))⟩
end Go.Proofs.Ytchfhhmmjioajaa
