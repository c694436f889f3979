import Derived.Test.YtchfhhmmjioajaaZLMKepts
import Derived.Test.YtchfhhmmjioajaaZLMMath
import Derived.Test.YtchfhhmmjioajaaZLTLoadN
import Derived.Test.YtchfhhmmjioajaaZLTRefLoadN
import Derived.Test.YtchfhhmmjioajaaZLTRefLeg
import Derived.Test.YtchfhhmmjioajaaZLTRefLoaded
import Derived.Outline
/- The walk of shotlinelaw03.TissueLoads: it returns true. -/
namespace Go.Proofs.Ytchfhhmmjioajaa
open Go.ChangeShapes Go.WideShapes Go.ChangeAt Go.RowKit
set_option linter.unusedVariables false
set_option linter.unusedSimpArgs false
attribute [local go_sem ↓] Go.wp_at_zero Go.wp_at_succ
set_option maxRecDepth 100000 in
set_option maxHeartbeats 4000000 in
theorem tissueLoads_dark (T : List Cm) (L : List Ld) (A B : Option Addr) (cap cap' : Nat) (fr tz se o hh fi : Int) (w : World) (hl : T.length ≤ 9223372036854775807) (hl' : L.length ≤ 9223372036854775807) (hA : A = none → cap = 0) (hB : B = none → cap' = 0) (hT : SlCm w A T) (hL : SlLd w B L) (hli : (fewB T.length && decide (L.length ≤ 19)) = false) :
    Calls Try.prog 6 #[.agg #[.slice A T.length cap, .slice B L.length cap', .int .i64 fr, .int .i64 tz, .int .i64 se, .int .i64 o, .int .i64 hh, .int .i64 fi]] w fun e w' => e = .returned (.bool true) ∧ Below w.heap.size w w' := by
  have HT := Lib.hid hT
  have HL := Lib.hid hL
  have HNA := Lib.hid hA
  have HNB := Lib.hid hB
  clear hT hL hA hB
  · have HLI := Lib.hid (fun w => light_is T L A B cap cap' fr tz se o hh fi false w hl' (Lib.hid hli))
    clear hli
    go_enter Try.func6, Try.ntmps6
    go_wp2_with fail
    refine (tawake_any _).mono ?_
    rintro e w1 ⟨rfl, hb1⟩
    have za := hb1.size
    try simp at za
    have a0 : w1.cell? ⟨w.heap.size, 0, none⟩ = some (.slice A T.length cap) := (by rw [(bcell hb1).1 _ _ (by first | (simp; done) | (simp; omega) | omega)]; simp [go_sem, World.cell?_alloc_past, *])
    have a1 : w1.cell? ⟨w.heap.size, 1, none⟩ = some (.slice B L.length cap') := (by rw [(bcell hb1).1 _ _ (by first | (simp; done) | (simp; omega) | omega)]; simp [go_sem, World.cell?_alloc_past, *])
    have a2 : w1.cell? ⟨w.heap.size, 2, none⟩ = some (.int .i64 fr) := (by rw [(bcell hb1).1 _ _ (by first | (simp; done) | (simp; omega) | omega)]; simp [go_sem, World.cell?_alloc_past, *])
    have a3 : w1.cell? ⟨w.heap.size, 3, none⟩ = some (.int .i64 tz) := (by rw [(bcell hb1).1 _ _ (by first | (simp; done) | (simp; omega) | omega)]; simp [go_sem, World.cell?_alloc_past, *])
    have a4 : w1.cell? ⟨w.heap.size, 4, none⟩ = some (.int .i64 se) := (by rw [(bcell hb1).1 _ _ (by first | (simp; done) | (simp; omega) | omega)]; simp [go_sem, World.cell?_alloc_past, *])
    have a5 : w1.cell? ⟨w.heap.size, 5, none⟩ = some (.int .i64 o) := (by rw [(bcell hb1).1 _ _ (by first | (simp; done) | (simp; omega) | omega)]; simp [go_sem, World.cell?_alloc_past, *])
    have a6 : w1.cell? ⟨w.heap.size, 6, none⟩ = some (.int .i64 hh) := (by rw [(bcell hb1).1 _ _ (by first | (simp; done) | (simp; omega) | omega)]; simp [go_sem, World.cell?_alloc_past, *])
    have a7 : w1.cell? ⟨w.heap.size, 7, none⟩ = some (.int .i64 fi) := (by rw [(bcell hb1).1 _ _ (by first | (simp; done) | (simp; omega) | omega)]; simp [go_sem, World.cell?_alloc_past, *])
    have aB : Below w.heap.size w w1 := (by (repeat (first | (with_reducible refine Below.drew ?_) | (with_reducible refine below_drewN ?_ _) | (with_reducible refine Below.alloc ?_ (by first | omega | (simp; done) | (simp; omega) | (simp at *; omega)) _) | (with_reducible refine Below.setCell ?_ (by first | omega | (simp; done) | (simp; omega) | (simp at *; omega)) _) | (with_reducible exact Below.refl _ _) | (with_reducible assumption) | (with_reducible refine Below.trans ?_ (Below.mono (by assumption) (by first | omega | (simp; done) | (simp; omega) | (simp at *; omega)))))))
    have ao0 : w.heap.size < w1.heap.size := by omega
    have an0 : w1.heap.size ≠ w.heap.size := by omega
    clear hb1
    go_wp2_with fail
    refine (HLI.out _).mono ?_
    rintro e w2 ⟨rfl, hb2⟩
    have hB2 : Below w.heap.size w w2 := (by (repeat (first | (with_reducible refine Below.drew ?_) | (with_reducible refine below_drewN ?_ _) | (with_reducible refine Below.alloc ?_ (by first | omega | (simp; done) | (simp; omega) | (simp at *; omega)) _) | (with_reducible refine Below.setCell ?_ (by first | omega | (simp; done) | (simp; omega) | (simp at *; omega)) _) | (with_reducible exact Below.refl _ _) | (with_reducible assumption) | (with_reducible refine Below.trans ?_ (Below.mono (by assumption) (by first | omega | (simp; done) | (simp; omega) | (simp at *; omega)))))))
    clear hb2
    go_wp2
    go_ret
    exact ⟨by first | rfl | simp, hB2⟩
set_option maxRecDepth 100000 in
set_option maxHeartbeats 4000000 in
theorem tissueLoads_bad (T : List Cm) (L : List Ld) (A B : Option Addr) (cap cap' : Nat) (fr tz se o hh fi : Int) (w : World) (hl : T.length ≤ 9223372036854775807) (hl' : L.length ≤ 9223372036854775807) (hA : A = none → cap = 0) (hB : B = none → cap' = 0) (hT : SlCm w A T) (hL : SlLd w B L) (hli : (fewB T.length && decide (L.length ≤ 19)) = true) (hz : firE [loadsE T L, legE fr tz se o hh, rngE fi 0 6] ≠ 0) :
    Calls Try.prog 6 #[.agg #[.slice A T.length cap, .slice B L.length cap', .int .i64 fr, .int .i64 tz, .int .i64 se, .int .i64 o, .int .i64 hh, .int .i64 fi]] w fun e w' => e = .returned (.bool true) ∧ Below w.heap.size w w' := by
  have HT := Lib.hid hT
  have HL := Lib.hid hL
  have HNA := Lib.hid hA
  have HNB := Lib.hid hB
  clear hT hL hA hB
  have HLI := Lib.hid (fun w => light_is T L A B cap cap' fr tz se o hh fi true w hl' (Lib.hid hli))
  have hlt : T.length ≤ 18 := few_le (by cases h0 : fewB T.length with | true => rfl | false => rw [h0] at hli; simp at hli)
  have hll : L.length ≤ 19 := by cases h0 : fewB T.length with | true => rw [h0] at hli; simpa using hli | false => rw [h0] at hli; simp at hli
  clear hli
  obtain ⟨q, hq⟩ : ∃ z, Hid (loadsE T L = z) := ⟨_, Lib.hid rfl⟩
  obtain ⟨g, hg⟩ : ∃ z, Hid (legE fr tz se o hh = z) := ⟨_, Lib.hid rfl⟩
  obtain ⟨v, hv⟩ : ∃ z, Hid (rngE fi 0 6 = z) := ⟨_, Lib.hid rfl⟩
  obtain ⟨E, hE⟩ : ∃ z, Hid (firE [q, g, v] = z) := ⟨_, Lib.hid rfl⟩
  have hE2 : Hid (firE [q, g, rngE fi 0 6] = E) := by show _ = _; rw [hv.out]; exact hE.out
  have HCK := Lib.hid (fun w hT hL => lawCheck_is T L A B cap cap' fr tz se o hh fi q g E w hl hl' hq hg hE2 (Lib.hid hT) (Lib.hid hL))
  have hzb : (E != 0) = true := by rw [← hE2.out, ← hq.out, ← hg.out]; simpa using hz
  have hz0 := hzb
  clear hz
  · clear hz0
    go_enter Try.func6, Try.ntmps6
    go_wp2_with fail
    refine (tawake_any _).mono ?_
    rintro e w1 ⟨rfl, hb1⟩
    have za := hb1.size
    try simp at za
    have a0 : w1.cell? ⟨w.heap.size, 0, none⟩ = some (.slice A T.length cap) := (by rw [(bcell hb1).1 _ _ (by first | (simp; done) | (simp; omega) | omega)]; simp [go_sem, World.cell?_alloc_past, *])
    have a1 : w1.cell? ⟨w.heap.size, 1, none⟩ = some (.slice B L.length cap') := (by rw [(bcell hb1).1 _ _ (by first | (simp; done) | (simp; omega) | omega)]; simp [go_sem, World.cell?_alloc_past, *])
    have a2 : w1.cell? ⟨w.heap.size, 2, none⟩ = some (.int .i64 fr) := (by rw [(bcell hb1).1 _ _ (by first | (simp; done) | (simp; omega) | omega)]; simp [go_sem, World.cell?_alloc_past, *])
    have a3 : w1.cell? ⟨w.heap.size, 3, none⟩ = some (.int .i64 tz) := (by rw [(bcell hb1).1 _ _ (by first | (simp; done) | (simp; omega) | omega)]; simp [go_sem, World.cell?_alloc_past, *])
    have a4 : w1.cell? ⟨w.heap.size, 4, none⟩ = some (.int .i64 se) := (by rw [(bcell hb1).1 _ _ (by first | (simp; done) | (simp; omega) | omega)]; simp [go_sem, World.cell?_alloc_past, *])
    have a5 : w1.cell? ⟨w.heap.size, 5, none⟩ = some (.int .i64 o) := (by rw [(bcell hb1).1 _ _ (by first | (simp; done) | (simp; omega) | omega)]; simp [go_sem, World.cell?_alloc_past, *])
    have a6 : w1.cell? ⟨w.heap.size, 6, none⟩ = some (.int .i64 hh) := (by rw [(bcell hb1).1 _ _ (by first | (simp; done) | (simp; omega) | omega)]; simp [go_sem, World.cell?_alloc_past, *])
    have a7 : w1.cell? ⟨w.heap.size, 7, none⟩ = some (.int .i64 fi) := (by rw [(bcell hb1).1 _ _ (by first | (simp; done) | (simp; omega) | omega)]; simp [go_sem, World.cell?_alloc_past, *])
    have aB : Below w.heap.size w w1 := (by (repeat (first | (with_reducible refine Below.drew ?_) | (with_reducible refine below_drewN ?_ _) | (with_reducible refine Below.alloc ?_ (by first | omega | (simp; done) | (simp; omega) | (simp at *; omega)) _) | (with_reducible refine Below.setCell ?_ (by first | omega | (simp; done) | (simp; omega) | (simp at *; omega)) _) | (with_reducible exact Below.refl _ _) | (with_reducible assumption) | (with_reducible refine Below.trans ?_ (Below.mono (by assumption) (by first | omega | (simp; done) | (simp; omega) | (simp at *; omega)))))))
    have ao0 : w.heap.size < w1.heap.size := by omega
    have an0 : w1.heap.size ≠ w.heap.size := by omega
    clear hb1
    go_wp2_with fail
    refine (HLI.out _).mono ?_
    rintro e w2 ⟨rfl, hb2⟩
    have zb := hb2.size
    try simp at zb
    have b0 : w2.cell? ⟨w.heap.size, 0, none⟩ = some (.slice A T.length cap) := (by rw [(bcell hb2).1 _ _ (by first | (simp; done) | (simp; omega) | omega)]; simp [go_sem, World.cell?_alloc_past, *])
    have b1 : w2.cell? ⟨w.heap.size, 1, none⟩ = some (.slice B L.length cap') := (by rw [(bcell hb2).1 _ _ (by first | (simp; done) | (simp; omega) | omega)]; simp [go_sem, World.cell?_alloc_past, *])
    have b2 : w2.cell? ⟨w.heap.size, 2, none⟩ = some (.int .i64 fr) := (by rw [(bcell hb2).1 _ _ (by first | (simp; done) | (simp; omega) | omega)]; simp [go_sem, World.cell?_alloc_past, *])
    have b3 : w2.cell? ⟨w.heap.size, 3, none⟩ = some (.int .i64 tz) := (by rw [(bcell hb2).1 _ _ (by first | (simp; done) | (simp; omega) | omega)]; simp [go_sem, World.cell?_alloc_past, *])
    have b4 : w2.cell? ⟨w.heap.size, 4, none⟩ = some (.int .i64 se) := (by rw [(bcell hb2).1 _ _ (by first | (simp; done) | (simp; omega) | omega)]; simp [go_sem, World.cell?_alloc_past, *])
    have b5 : w2.cell? ⟨w.heap.size, 5, none⟩ = some (.int .i64 o) := (by rw [(bcell hb2).1 _ _ (by first | (simp; done) | (simp; omega) | omega)]; simp [go_sem, World.cell?_alloc_past, *])
    have b6 : w2.cell? ⟨w.heap.size, 6, none⟩ = some (.int .i64 hh) := (by rw [(bcell hb2).1 _ _ (by first | (simp; done) | (simp; omega) | omega)]; simp [go_sem, World.cell?_alloc_past, *])
    have b7 : w2.cell? ⟨w.heap.size, 7, none⟩ = some (.int .i64 fi) := (by rw [(bcell hb2).1 _ _ (by first | (simp; done) | (simp; omega) | omega)]; simp [go_sem, World.cell?_alloc_past, *])
    have bB : Below w.heap.size w w2 := (by (repeat (first | (with_reducible refine Below.drew ?_) | (with_reducible refine below_drewN ?_ _) | (with_reducible refine Below.alloc ?_ (by first | omega | (simp; done) | (simp; omega) | (simp at *; omega)) _) | (with_reducible refine Below.setCell ?_ (by first | omega | (simp; done) | (simp; omega) | (simp at *; omega)) _) | (with_reducible exact Below.refl _ _) | (with_reducible assumption) | (with_reducible refine Below.trans ?_ (Below.mono (by assumption) (by first | omega | (simp; done) | (simp; omega) | (simp at *; omega)))))))
    have bo0 : w.heap.size < w2.heap.size := by omega
    have bn0 : w2.heap.size ≠ w.heap.size := by omega
    clear hb2 a0 a1 a2 a3 a4 a5 a6 a7 aB ao0 an0
    go_upto_region 5 with (fail)
    go_cut [3, 4] from 6 (fun s3 s4 wx => s3 = .slice none 0 0 ∧ s4 = .int .i64 E ∧ Below w2.heap.size w2 wx)
    case first =>
      have HS : ∀ w', Below w2.heap.size w2 w' → w'.cell? ⟨w.heap.size, 0, none⟩ = some (.slice A T.length cap) ∧ w'.cell? ⟨w.heap.size, 1, none⟩ = some (.slice B L.length cap') ∧ w'.cell? ⟨w.heap.size, 2, none⟩ = some (.int .i64 fr) ∧ w'.cell? ⟨w.heap.size, 3, none⟩ = some (.int .i64 tz) ∧ w'.cell? ⟨w.heap.size, 4, none⟩ = some (.int .i64 se) ∧ w'.cell? ⟨w.heap.size, 5, none⟩ = some (.int .i64 o) ∧ w'.cell? ⟨w.heap.size, 6, none⟩ = some (.int .i64 hh) ∧ w'.cell? ⟨w.heap.size, 7, none⟩ = some (.int .i64 fi) := fun w' hb => ⟨(hb.cell (p := ⟨w.heap.size, 0, none⟩) bo0).trans b0, (hb.cell (p := ⟨w.heap.size, 1, none⟩) bo0).trans b1, (hb.cell (p := ⟨w.heap.size, 2, none⟩) bo0).trans b2, (hb.cell (p := ⟨w.heap.size, 3, none⟩) bo0).trans b3, (hb.cell (p := ⟨w.heap.size, 4, none⟩) bo0).trans b4, (hb.cell (p := ⟨w.heap.size, 5, none⟩) bo0).trans b5, (hb.cell (p := ⟨w.heap.size, 6, none⟩) bo0).trans b6, (hb.cell (p := ⟨w.heap.size, 7, none⟩) bo0).trans b7⟩
      have HS' := Lib.hid HS
      clear HS
      refine wp_region_held_drew (S := (fun w' => w'.cell? ⟨w.heap.size, 0, none⟩ = some (.slice A T.length cap) ∧ w'.cell? ⟨w.heap.size, 1, none⟩ = some (.slice B L.length cap') ∧ w'.cell? ⟨w.heap.size, 2, none⟩ = some (.int .i64 fr) ∧ w'.cell? ⟨w.heap.size, 3, none⟩ = some (.int .i64 tz) ∧ w'.cell? ⟨w.heap.size, 4, none⟩ = some (.int .i64 se) ∧ w'.cell? ⟨w.heap.size, 5, none⟩ = some (.int .i64 o) ∧ w'.cell? ⟨w.heap.size, 6, none⟩ = some (.int .i64 hh) ∧ w'.cell? ⟨w.heap.size, 7, none⟩ = some (.int .i64 fi))) (by kernel_rfl) (by exact HS'.out _ (Below.refl w2.heap.size w2).drew) (fun hHeld => ?_)
      refine wpAnyH_take (i := 0) (oi := ⟨some 12, _, _, _, _, _⟩) (v := ?_) rfl (by kernel_rfl) (by kernel_rfl) (by kernel_rfl) (fun _ _ _ h => h) (Or.inl ⟨by kernel_rfl, ?_⟩) (by assumption) ?_
      rotate_left
      · (intro w hSw; (try dsimp only at hSw); go_simp; all_goals with_reducible rfl)
      try simp only [Act.put, List.setIfInBounds_toArray, List.set_cons_zero, List.set_cons_succ]
      refine wpAnyH_take (i := 1) (oi := ⟨some 13, _, _, _, _, _⟩) (v := ?_) rfl (by kernel_rfl) (by kernel_rfl) (by kernel_rfl) (fun _ _ _ h => h) (Or.inl ⟨by kernel_rfl, ?_⟩) (by assumption) ?_
      rotate_left
      · (intro w hSw; (try dsimp only at hSw); go_simp; all_goals with_reducible rfl)
      try simp only [Act.put, List.setIfInBounds_toArray, List.set_cons_zero, List.set_cons_succ]
      refine wpAnyH_take (i := 3) (oi := ⟨some 15, _, _, _, _, _⟩) (v := ?_) rfl (by kernel_rfl) (by kernel_rfl) (by kernel_rfl) (fun _ _ _ h => h) (Or.inl ⟨by kernel_rfl, ?_⟩) (by assumption) ?_
      rotate_left
      · (intro w hSw; (try dsimp only at hSw); go_simp; all_goals with_reducible rfl)
      try simp only [Act.put, List.setIfInBounds_toArray, List.set_cons_zero, List.set_cons_succ]
      refine wpAnyH_take (i := 4) (oi := ⟨some 16, _, _, _, _, _⟩) (v := ?_) rfl (by kernel_rfl) (by kernel_rfl) (by kernel_rfl) (fun _ _ _ h => h) (Or.inl ⟨by kernel_rfl, ?_⟩) (by assumption) ?_
      rotate_left
      · (intro w hSw; (try dsimp only at hSw); go_simp; all_goals with_reducible rfl)
      try simp only [Act.put, List.setIfInBounds_toArray, List.set_cons_zero, List.set_cons_succ]
      refine wpAnyH_take (i := 6) (oi := ⟨some 18, _, _, _, _, _⟩) (v := ?_) rfl (by kernel_rfl) (by kernel_rfl) (by kernel_rfl) (fun _ _ _ h => h) (Or.inl ⟨by kernel_rfl, ?_⟩) (by assumption) ?_
      rotate_left
      · (intro w hSw; (try dsimp only at hSw); go_simp; all_goals with_reducible rfl)
      try simp only [Act.put, List.setIfInBounds_toArray, List.set_cons_zero, List.set_cons_succ]
      refine wpAnyH_take (i := 7) (oi := ⟨some 19, _, _, _, _, _⟩) (v := ?_) rfl (by kernel_rfl) (by kernel_rfl) (by kernel_rfl) (fun _ _ _ h => h) (Or.inl ⟨by kernel_rfl, ?_⟩) (by assumption) ?_
      rotate_left
      · (intro w hSw; (try dsimp only at hSw); go_simp; all_goals with_reducible rfl)
      try simp only [Act.put, List.setIfInBounds_toArray, List.set_cons_zero, List.set_cons_succ]
      refine wpAnyH_take (i := 8) (oi := ⟨some 20, _, _, _, _, _⟩) (v := ?_) rfl (by kernel_rfl) (by kernel_rfl) (by kernel_rfl) (fun _ _ _ h => h) (Or.inl ⟨by kernel_rfl, ?_⟩) (by assumption) ?_
      rotate_left
      · (intro w hSw; (try dsimp only at hSw); go_simp; all_goals with_reducible rfl)
      try simp only [Act.put, List.setIfInBounds_toArray, List.set_cons_zero, List.set_cons_succ]
      refine wpAnyH_take (i := 9) (oi := ⟨some 21, _, _, _, _, _⟩) (v := ?_) rfl (by kernel_rfl) (by kernel_rfl) (by kernel_rfl) (fun _ _ _ h => h) (Or.inl ⟨by kernel_rfl, ?_⟩) (by assumption) ?_
      rotate_left
      · (intro w hSw; (try dsimp only at hSw); go_simp; all_goals with_reducible rfl)
      try simp only [Act.put, List.setIfInBounds_toArray, List.set_cons_zero, List.set_cons_succ]
      have hB0 : Below w2.heap.size w2 w2.drew := (Below.refl w2.heap.size w2).drew
      generalize hdr : w2.drew = u0 at *
      clear hdr
      refine wpAnyH_ready (rs := [2]) (by kernel_rfl) (by simp) ?_
      refine AllReadyH.cons rfl (fun K hK => ?_) (AllReadyH.nil)
      go_simp
      refine (lawTable_any T A cap _ (by omega) HNA.out (HT.out.below (bB.trans ((hB0).mono bB.size)))).mono ?_
      rintro e u1 ⟨A2, cap2, rfl, hS, _, hb1⟩
      have HT1 := Lib.hid hS
      clear hS
      have hB1 : Below w2.heap.size w2 u1 := hB0.trans (hb1.mono hB0.size)
      go_wp2_with fail
      refine hK.out _ _ (HS'.out _ (hB1)) (fun hHeld => ?_)
      clear hK K
      try simp only [Act.put, List.setIfInBounds_toArray, List.set_cons_zero, List.set_cons_succ]
      refine wpAnyH_ready (rs := [5]) (by kernel_rfl) (by simp) ?_
      refine AllReadyH.cons rfl (fun K hK => ?_) (AllReadyH.nil)
      go_simp
      refine (lawLoads_any L B cap' _ (by omega) HNB.out (HL.out.below (bB.trans ((hB1).mono bB.size)))).mono ?_
      rintro e u2 ⟨A3, cap3, rfl, hS, _, hb2⟩
      have HL2 := Lib.hid hS
      clear hS
      have HT2 := Lib.hid (HT1.out.below hb2)
      have hB2 : Below w2.heap.size w2 u2 := hB1.trans (hb2.mono hB1.size)
      go_wp2_with fail
      refine hK.out _ _ (HS'.out _ (hB2)) (fun hHeld => ?_)
      clear hK K
      try simp only [Act.put, List.setIfInBounds_toArray, List.set_cons_zero, List.set_cons_succ]
      refine wpAnyH_ready (rs := [10]) (by kernel_rfl) (by simp) ?_
      refine AllReadyH.cons rfl (fun K hK => ?_) (AllReadyH.nil)
      go_simp
      refine (Loaded_bad T L A2 A3 cap2 cap3 fr tz se o hh fi q g v E _ (by omega) (by omega) hq hg hv hE hzb HT2.out HL2.out).mono ?_
      rintro e u3 ⟨rfl, hb3⟩
      have hB3 : Below w2.heap.size w2 u3 := hB2.trans (hb3.mono hB2.size)
      go_wp2_with fail
      refine hK.out _ _ (HS'.out _ (hB3)) (fun hHeld => ?_)
      clear hK K
      try simp only [Act.put, List.setIfInBounds_toArray, List.set_cons_zero, List.set_cons_succ]
      refine wpAnyH_take (i := 11) (oi := ⟨some 11, _, _, _, _, _⟩) (v := ?_) rfl (by kernel_rfl) (by kernel_rfl) (by kernel_rfl) (fun _ _ _ h => h) (Or.inl ⟨by kernel_rfl, ?_⟩) (by assumption) ?_
      rotate_left
      · (intro w hSw; (try dsimp only at hSw); go_simp; all_goals with_reducible rfl)
      try simp only [Act.put, List.setIfInBounds_toArray, List.set_cons_zero, List.set_cons_succ]
      refine wpAnyH_take (i := 12) (oi := ⟨some 23, _, _, _, _, _⟩) (v := ?_) rfl (by kernel_rfl) (by kernel_rfl) (by kernel_rfl) (fun _ _ _ h => h) (Or.inl ⟨by kernel_rfl, ?_⟩) (by assumption) ?_
      rotate_left
      · (intro w hSw; (try dsimp only at hSw); go_simp; all_goals with_reducible rfl)
      try simp only [Act.put, List.setIfInBounds_toArray, List.set_cons_zero, List.set_cons_succ]
      refine wpAnyH_take (i := 13) (oi := ⟨some 24, _, _, _, _, _⟩) (v := ?_) rfl (by kernel_rfl) (by kernel_rfl) (by kernel_rfl) (fun _ _ _ h => h) (Or.inl ⟨by kernel_rfl, ?_⟩) (by assumption) ?_
      rotate_left
      · (intro w hSw; (try dsimp only at hSw); go_simp; all_goals with_reducible rfl)
      try simp only [Act.put, List.setIfInBounds_toArray, List.set_cons_zero, List.set_cons_succ]
      refine wpAnyH_take (i := 14) (oi := ⟨some 3, _, _, _, _, _⟩) (v := ?_) rfl (by kernel_rfl) (by kernel_rfl) (by kernel_rfl) (fun _ _ _ h => h) (Or.inl ⟨by kernel_rfl, ?_⟩) (by assumption) ?_
      rotate_left
      · (intro w hSw; (try dsimp only at hSw); go_simp; all_goals with_reducible rfl)
      try simp only [Act.put, List.setIfInBounds_toArray, List.set_cons_zero, List.set_cons_succ]
      refine wpAnyH_take (i := 15) (oi := ⟨some 4, _, _, _, _, _⟩) (v := ?_) rfl (by kernel_rfl) (by kernel_rfl) (by kernel_rfl) (fun _ _ _ h => h) (Or.inl ⟨by kernel_rfl, ?_⟩) (by assumption) ?_
      rotate_left
      · (intro w hSw; (try dsimp only at hSw); go_simp; all_goals with_reducible rfl)
      try simp only [Act.put, List.setIfInBounds_toArray, List.set_cons_zero, List.set_cons_succ]
      refine wpAnyH_done (by kernel_rfl) ?_ _
      go_wp2_with fail
      go_meet
      exact ⟨rfl, rfl, hB3⟩
    case rest =>
    obtain ⟨rfl, rfl, hbc⟩ := hcut
    obtain ⟨w3, hw3⟩ : ∃ V, V = wc := ⟨_, rfl⟩
    rw [← hw3] at hbc
    rw [← hw3]
    clear hw3
    have zc := hbc.size
    have c0 := (hbc.cell (p := ⟨w.heap.size, 0, none⟩) bo0).trans b0
    have c1 := (hbc.cell (p := ⟨w.heap.size, 1, none⟩) bo0).trans b1
    have c2 := (hbc.cell (p := ⟨w.heap.size, 2, none⟩) bo0).trans b2
    have c3 := (hbc.cell (p := ⟨w.heap.size, 3, none⟩) bo0).trans b3
    have c4 := (hbc.cell (p := ⟨w.heap.size, 4, none⟩) bo0).trans b4
    have c5 := (hbc.cell (p := ⟨w.heap.size, 5, none⟩) bo0).trans b5
    have c6 := (hbc.cell (p := ⟨w.heap.size, 6, none⟩) bo0).trans b6
    have c7 := (hbc.cell (p := ⟨w.heap.size, 7, none⟩) bo0).trans b7
    have cB : Below w.heap.size w w3 := bB.trans (hbc.mono bB.size)
    have co0 : w.heap.size < w3.heap.size := by omega
    have cn0 : w3.heap.size ≠ w.heap.size := by omega
    clear hbc b0 b1 b2 b3 b4 b5 b6 b7 bB bo0 bn0
    go_upto_region 6 with (fail)
    have HS : ∀ w', Below w3.heap.size w3 w' → w'.cell? ⟨w.heap.size, 2, none⟩ = some (.int .i64 fr) ∧ w'.cell? ⟨w.heap.size, 3, none⟩ = some (.int .i64 tz) ∧ w'.cell? ⟨w.heap.size, 4, none⟩ = some (.int .i64 se) ∧ w'.cell? ⟨w.heap.size, 5, none⟩ = some (.int .i64 o) ∧ w'.cell? ⟨w.heap.size, 6, none⟩ = some (.int .i64 hh) := fun w' hb => ⟨(hb.cell (p := ⟨w.heap.size, 2, none⟩) co0).trans c2, (hb.cell (p := ⟨w.heap.size, 3, none⟩) co0).trans c3, (hb.cell (p := ⟨w.heap.size, 4, none⟩) co0).trans c4, (hb.cell (p := ⟨w.heap.size, 5, none⟩) co0).trans c5, (hb.cell (p := ⟨w.heap.size, 6, none⟩) co0).trans c6⟩
    have HS' := Lib.hid HS
    clear HS
    refine wp_region_held_drew (S := (fun w' => w'.cell? ⟨w.heap.size, 2, none⟩ = some (.int .i64 fr) ∧ w'.cell? ⟨w.heap.size, 3, none⟩ = some (.int .i64 tz) ∧ w'.cell? ⟨w.heap.size, 4, none⟩ = some (.int .i64 se) ∧ w'.cell? ⟨w.heap.size, 5, none⟩ = some (.int .i64 o) ∧ w'.cell? ⟨w.heap.size, 6, none⟩ = some (.int .i64 hh))) (by kernel_rfl) (by exact HS'.out _ (Below.refl w3.heap.size w3).drew) (fun hHeld => ?_)
    refine wpAnyH_take (i := 0) (oi := ⟨some 25, _, _, _, _, _⟩) (v := ?_) rfl (by kernel_rfl) (by kernel_rfl) (by kernel_rfl) (fun _ _ _ h => h) (Or.inl ⟨by kernel_rfl, ?_⟩) (by assumption) ?_
    rotate_left
    · (intro w hSw; (try dsimp only at hSw); go_simp; all_goals with_reducible rfl)
    try simp only [Act.put, List.setIfInBounds_toArray, List.set_cons_zero, List.set_cons_succ]
    refine wpAnyH_take (i := 1) (oi := ⟨some 26, _, _, _, _, _⟩) (v := ?_) rfl (by kernel_rfl) (by kernel_rfl) (by kernel_rfl) (fun _ _ _ h => h) (Or.inl ⟨by kernel_rfl, ?_⟩) (by assumption) ?_
    rotate_left
    · (intro w hSw; (try dsimp only at hSw); go_simp; all_goals with_reducible rfl)
    try simp only [Act.put, List.setIfInBounds_toArray, List.set_cons_zero, List.set_cons_succ]
    refine wpAnyH_take (i := 3) (oi := ⟨some 28, _, _, _, _, _⟩) (v := ?_) rfl (by kernel_rfl) (by kernel_rfl) (by kernel_rfl) (fun _ _ _ h => h) (Or.inl ⟨by kernel_rfl, ?_⟩) (by assumption) ?_
    rotate_left
    · (intro w hSw; (try dsimp only at hSw); go_simp; all_goals with_reducible rfl)
    try simp only [Act.put, List.setIfInBounds_toArray, List.set_cons_zero, List.set_cons_succ]
    refine wpAnyH_take (i := 4) (oi := ⟨some 29, _, _, _, _, _⟩) (v := ?_) rfl (by kernel_rfl) (by kernel_rfl) (by kernel_rfl) (fun _ _ _ h => h) (Or.inl ⟨by kernel_rfl, ?_⟩) (by assumption) ?_
    rotate_left
    · (intro w hSw; (try dsimp only at hSw); go_simp; all_goals with_reducible rfl)
    try simp only [Act.put, List.setIfInBounds_toArray, List.set_cons_zero, List.set_cons_succ]
    have hB0 : Below w3.heap.size w3 w3.drew := (Below.refl w3.heap.size w3).drew
    generalize hdr : w3.drew = u0 at *
    clear hdr
    refine wpAnyH_ready (rs := [2]) (by kernel_rfl) (by simp) ?_
    refine AllReadyH.cons rfl (fun K hK => ?_) (AllReadyH.nil)
    go_simp
    refine (CheckLeg_is fr tz se o hh g _ hg).mono ?_
    rintro e u1 ⟨rfl, hb1⟩
    have hB1 : Below w3.heap.size w3 u1 := hB0.trans (hb1.mono hB0.size)
    go_wp2_with fail
    refine hK.out _ _ (HS'.out _ (hB1)) (fun hHeld => ?_)
    clear hK K
    try simp only [Act.put, List.setIfInBounds_toArray, List.set_cons_zero, List.set_cons_succ]
    refine wpAnyH_ready (rs := [5]) (by kernel_rfl) (by simp) ?_
    refine AllReadyH.cons rfl (fun K hK => ?_) (AllReadyH.nil)
    go_simp
    refine (refCheckLeg_is fr tz se o hh g _ hg).mono ?_
    rintro e w4 ⟨rfl, hb2⟩
    have hB2 : Below w3.heap.size w3 w4 := hB1.trans (hb2.mono hB1.size)
    go_wp2_with fail
    refine hK.out _ _ (HS'.out _ (hB2)) (fun hHeld => ?_)
    clear hK K
    try simp only [Act.put, List.setIfInBounds_toArray, List.set_cons_zero, List.set_cons_succ]
    refine wpAnyH_take (i := 6) (oi := ⟨some 31, _, _, _, _, _⟩) (v := ?_) rfl (by kernel_rfl) (by kernel_rfl) (by kernel_rfl) (fun _ _ _ h => h) (Or.inl ⟨by kernel_rfl, ?_⟩) (by assumption) ?_
    rotate_left
    · (intro w hSw; (try dsimp only at hSw); go_simp; all_goals with_reducible rfl)
    try simp only [Act.put, List.setIfInBounds_toArray, List.set_cons_zero, List.set_cons_succ]
    refine wpAnyH_done (by kernel_rfl) ?_ _
    clear HS' hHeld hB0 hB1 hb1 hb2
    have zd := hB2.size
    have d0 := (hB2.cell (p := ⟨w.heap.size, 0, none⟩) co0).trans c0
    have d1 := (hB2.cell (p := ⟨w.heap.size, 1, none⟩) co0).trans c1
    have d2 := (hB2.cell (p := ⟨w.heap.size, 2, none⟩) co0).trans c2
    have d3 := (hB2.cell (p := ⟨w.heap.size, 3, none⟩) co0).trans c3
    have d4 := (hB2.cell (p := ⟨w.heap.size, 4, none⟩) co0).trans c4
    have d5 := (hB2.cell (p := ⟨w.heap.size, 5, none⟩) co0).trans c5
    have d6 := (hB2.cell (p := ⟨w.heap.size, 6, none⟩) co0).trans c6
    have d7 := (hB2.cell (p := ⟨w.heap.size, 7, none⟩) co0).trans c7
    have dB : Below w.heap.size w w4 := cB.trans (hB2.mono cB.size)
    have do0 : w.heap.size < w4.heap.size := by omega
    have dn0 : w4.heap.size ≠ w.heap.size := by omega
    clear hB2 c0 c1 c2 c3 c4 c5 c6 c7 cB co0 cn0
    go_wp2_with fail
    refine (HCK.out _ (HT.out.below (by exact (by (repeat (first | (with_reducible refine Below.drew ?_) | (with_reducible refine below_drewN ?_ _) | (with_reducible refine Below.alloc ?_ (by first | omega | (simp; done) | (simp; omega) | (simp at *; omega)) _) | (with_reducible refine Below.setCell ?_ (by first | omega | (simp; done) | (simp; omega) | (simp at *; omega)) _) | (with_reducible exact Below.refl _ _) | (with_reducible assumption) | (with_reducible refine Below.trans ?_ (Below.mono (by assumption) (by first | omega | (simp; done) | (simp; omega) | (simp at *; omega))))))))) (HL.out.below (by exact (by (repeat (first | (with_reducible refine Below.drew ?_) | (with_reducible refine below_drewN ?_ _) | (with_reducible refine Below.alloc ?_ (by first | omega | (simp; done) | (simp; omega) | (simp at *; omega)) _) | (with_reducible refine Below.setCell ?_ (by first | omega | (simp; done) | (simp; omega) | (simp at *; omega)) _) | (with_reducible exact Below.refl _ _) | (with_reducible assumption) | (with_reducible refine Below.trans ?_ (Below.mono (by assumption) (by first | omega | (simp; done) | (simp; omega) | (simp at *; omega)))))))))).mono ?_
    rintro e w5 ⟨rfl, hb5⟩
    have ze := hb5.size
    try simp at ze
    have e0 : w5.cell? ⟨w.heap.size, 0, none⟩ = some (.slice A T.length cap) := (by rw [(bcell hb5).1 _ _ (by first | (simp; done) | (simp; omega) | omega)]; simp [go_sem, World.cell?_alloc_past, *])
    have e1 : w5.cell? ⟨w.heap.size, 1, none⟩ = some (.slice B L.length cap') := (by rw [(bcell hb5).1 _ _ (by first | (simp; done) | (simp; omega) | omega)]; simp [go_sem, World.cell?_alloc_past, *])
    have e2 : w5.cell? ⟨w.heap.size, 2, none⟩ = some (.int .i64 fr) := (by rw [(bcell hb5).1 _ _ (by first | (simp; done) | (simp; omega) | omega)]; simp [go_sem, World.cell?_alloc_past, *])
    have e3 : w5.cell? ⟨w.heap.size, 3, none⟩ = some (.int .i64 tz) := (by rw [(bcell hb5).1 _ _ (by first | (simp; done) | (simp; omega) | omega)]; simp [go_sem, World.cell?_alloc_past, *])
    have e4 : w5.cell? ⟨w.heap.size, 4, none⟩ = some (.int .i64 se) := (by rw [(bcell hb5).1 _ _ (by first | (simp; done) | (simp; omega) | omega)]; simp [go_sem, World.cell?_alloc_past, *])
    have e5 : w5.cell? ⟨w.heap.size, 5, none⟩ = some (.int .i64 o) := (by rw [(bcell hb5).1 _ _ (by first | (simp; done) | (simp; omega) | omega)]; simp [go_sem, World.cell?_alloc_past, *])
    have e6 : w5.cell? ⟨w.heap.size, 6, none⟩ = some (.int .i64 hh) := (by rw [(bcell hb5).1 _ _ (by first | (simp; done) | (simp; omega) | omega)]; simp [go_sem, World.cell?_alloc_past, *])
    have e7 : w5.cell? ⟨w.heap.size, 7, none⟩ = some (.int .i64 fi) := (by rw [(bcell hb5).1 _ _ (by first | (simp; done) | (simp; omega) | omega)]; simp [go_sem, World.cell?_alloc_past, *])
    have eB : Below w.heap.size w w5 := (by (repeat (first | (with_reducible refine Below.drew ?_) | (with_reducible refine below_drewN ?_ _) | (with_reducible refine Below.alloc ?_ (by first | omega | (simp; done) | (simp; omega) | (simp at *; omega)) _) | (with_reducible refine Below.setCell ?_ (by first | omega | (simp; done) | (simp; omega) | (simp at *; omega)) _) | (with_reducible exact Below.refl _ _) | (with_reducible assumption) | (with_reducible refine Below.trans ?_ (Below.mono (by assumption) (by first | omega | (simp; done) | (simp; omega) | (simp at *; omega)))))))
    have eo0 : w.heap.size < w5.heap.size := by omega
    have en0 : w5.heap.size ≠ w.heap.size := by omega
    clear hb5 d0 d1 d2 d3 d4 d5 d6 d7 dB do0 dn0
    go_wp2
    go_ret
    exact ⟨by first | rfl | simp, eB⟩
end Go.Proofs.Ytchfhhmmjioajaa

/- The walk of shotlinelaw03.TissueLoads: it returns true. -/
namespace Go.Proofs.Ytchfhhmmjioajaa
open Go.ChangeShapes Go.WideShapes Go.ChangeAt Go.RowKit
set_option linter.unusedVariables false
set_option linter.unusedSimpArgs false
attribute [local go_sem ↓] Go.wp_at_zero Go.wp_at_succ
set_option maxRecDepth 100000 in
set_option maxHeartbeats 4000000 in
theorem tissueLoads_good (T : List Cm) (L : List Ld) (A B : Option Addr) (cap cap' : Nat) (fr tz se o hh fi : Int) (w : World) (hl : T.length ≤ 9223372036854775807) (hl' : L.length ≤ 9223372036854775807) (hA : A = none → cap = 0) (hB : B = none → cap' = 0) (hT : SlCm w A T) (hL : SlLd w B L) (hli : (fewB T.length && decide (L.length ≤ 19)) = true) (hz : firE [loadsE T L, legE fr tz se o hh, rngE fi 0 6] = 0) :
    Calls Try.prog 6 #[.agg #[.slice A T.length cap, .slice B L.length cap', .int .i64 fr, .int .i64 tz, .int .i64 se, .int .i64 o, .int .i64 hh, .int .i64 fi]] w fun e w' => e = .returned (.bool true) ∧ Below w.heap.size w w' := by
  have HT := Lib.hid hT
  have HL := Lib.hid hL
  have HNA := Lib.hid hA
  have HNB := Lib.hid hB
  clear hT hL hA hB
  have HLI := Lib.hid (fun w => light_is T L A B cap cap' fr tz se o hh fi true w hl' (Lib.hid hli))
  have hlt : T.length ≤ 18 := few_le (by cases h0 : fewB T.length with | true => rfl | false => rw [h0] at hli; simp at hli)
  have hll : L.length ≤ 19 := by cases h0 : fewB T.length with | true => rw [h0] at hli; simpa using hli | false => rw [h0] at hli; simp at hli
  clear hli
  obtain ⟨q, hq⟩ : ∃ z, Hid (loadsE T L = z) := ⟨_, Lib.hid rfl⟩
  obtain ⟨g, hg⟩ : ∃ z, Hid (legE fr tz se o hh = z) := ⟨_, Lib.hid rfl⟩
  obtain ⟨v, hv⟩ : ∃ z, Hid (rngE fi 0 6 = z) := ⟨_, Lib.hid rfl⟩
  obtain ⟨E, hE⟩ : ∃ z, Hid (firE [q, g, v] = z) := ⟨_, Lib.hid rfl⟩
  have hE2 : Hid (firE [q, g, rngE fi 0 6] = E) := by show _ = _; rw [hv.out]; exact hE.out
  have HCK := Lib.hid (fun w hT hL => lawCheck_is T L A B cap cap' fr tz se o hh fi q g E w hl hl' hq hg hE2 (Lib.hid hT) (Lib.hid hL))
  have hEz : E = 0 := by rw [← hE2.out, ← hq.out, ← hg.out]; exact hz
  subst hEz
  clear hz
  obtain ⟨q0, g0, v0⟩ := firE3_z hE.out
  obtain ⟨fi0, fi1⟩ := rng0 (hv.out.trans v0)
  obtain ⟨n, rfl⟩ := Int.eq_ofNat_of_zero_le fi0
  have hn6 : n ≤ 6 := by omega
  subst q0 g0 v0
  obtain ⟨PE, hPE⟩ : ∃ z, Hid (ldR fr tz se n o hh T L (stK se n) = z) := ⟨_, Lib.hid rfl⟩
  have hfit := ldR_fit hq.out hg.out hn6 (Nat.le_refl (stK se n))
  rw [hPE.out] at hfit
  have hpl : Hid (PE.length = T.length) := Lib.hid (fit_of hfit).len
  have hpf : Hid (loadsE T PE = 0) := Lib.hid hfit
  clear hfit fi0 fi1
  go_enter Try.func6, Try.ntmps6
  go_wp2_with fail
  refine (tawake_any _).mono ?_
  rintro e w1 ⟨rfl, hb1⟩
  have za := hb1.size
  try simp at za
  have a0 : w1.cell? ⟨w.heap.size, 0, none⟩ = some (.slice A T.length cap) := (by rw [(bcell hb1).1 _ _ (by first | (simp; done) | (simp; omega) | omega)]; simp [go_sem, World.cell?_alloc_past, *])
  have a1 : w1.cell? ⟨w.heap.size, 1, none⟩ = some (.slice B L.length cap') := (by rw [(bcell hb1).1 _ _ (by first | (simp; done) | (simp; omega) | omega)]; simp [go_sem, World.cell?_alloc_past, *])
  have a2 : w1.cell? ⟨w.heap.size, 2, none⟩ = some (.int .i64 fr) := (by rw [(bcell hb1).1 _ _ (by first | (simp; done) | (simp; omega) | omega)]; simp [go_sem, World.cell?_alloc_past, *])
  have a3 : w1.cell? ⟨w.heap.size, 3, none⟩ = some (.int .i64 tz) := (by rw [(bcell hb1).1 _ _ (by first | (simp; done) | (simp; omega) | omega)]; simp [go_sem, World.cell?_alloc_past, *])
  have a4 : w1.cell? ⟨w.heap.size, 4, none⟩ = some (.int .i64 se) := (by rw [(bcell hb1).1 _ _ (by first | (simp; done) | (simp; omega) | omega)]; simp [go_sem, World.cell?_alloc_past, *])
  have a5 : w1.cell? ⟨w.heap.size, 5, none⟩ = some (.int .i64 o) := (by rw [(bcell hb1).1 _ _ (by first | (simp; done) | (simp; omega) | omega)]; simp [go_sem, World.cell?_alloc_past, *])
  have a6 : w1.cell? ⟨w.heap.size, 6, none⟩ = some (.int .i64 hh) := (by rw [(bcell hb1).1 _ _ (by first | (simp; done) | (simp; omega) | omega)]; simp [go_sem, World.cell?_alloc_past, *])
  have a7 : w1.cell? ⟨w.heap.size, 7, none⟩ = some (.int .i64 (n : Int)) := (by rw [(bcell hb1).1 _ _ (by first | (simp; done) | (simp; omega) | omega)]; simp [go_sem, World.cell?_alloc_past, *])
  have aB : Below w.heap.size w w1 := (by (repeat (first | (with_reducible refine Below.drew ?_) | (with_reducible refine below_drewN ?_ _) | (with_reducible refine Below.alloc ?_ (by first | omega | (simp; done) | (simp; omega) | (simp at *; omega)) _) | (with_reducible refine Below.setCell ?_ (by first | omega | (simp; done) | (simp; omega) | (simp at *; omega)) _) | (with_reducible exact Below.refl _ _) | (with_reducible assumption) | (with_reducible refine Below.trans ?_ (Below.mono (by assumption) (by first | omega | (simp; done) | (simp; omega) | (simp at *; omega)))))))
  have ao0 : w.heap.size < w1.heap.size := by omega
  have an0 : w1.heap.size ≠ w.heap.size := by omega
  clear hb1
  go_wp2_with fail
  refine (HLI.out _).mono ?_
  rintro e w2 ⟨rfl, hb2⟩
  have zb := hb2.size
  try simp at zb
  have b0 : w2.cell? ⟨w.heap.size, 0, none⟩ = some (.slice A T.length cap) := (by rw [(bcell hb2).1 _ _ (by first | (simp; done) | (simp; omega) | omega)]; simp [go_sem, World.cell?_alloc_past, *])
  have b1 : w2.cell? ⟨w.heap.size, 1, none⟩ = some (.slice B L.length cap') := (by rw [(bcell hb2).1 _ _ (by first | (simp; done) | (simp; omega) | omega)]; simp [go_sem, World.cell?_alloc_past, *])
  have b2 : w2.cell? ⟨w.heap.size, 2, none⟩ = some (.int .i64 fr) := (by rw [(bcell hb2).1 _ _ (by first | (simp; done) | (simp; omega) | omega)]; simp [go_sem, World.cell?_alloc_past, *])
  have b3 : w2.cell? ⟨w.heap.size, 3, none⟩ = some (.int .i64 tz) := (by rw [(bcell hb2).1 _ _ (by first | (simp; done) | (simp; omega) | omega)]; simp [go_sem, World.cell?_alloc_past, *])
  have b4 : w2.cell? ⟨w.heap.size, 4, none⟩ = some (.int .i64 se) := (by rw [(bcell hb2).1 _ _ (by first | (simp; done) | (simp; omega) | omega)]; simp [go_sem, World.cell?_alloc_past, *])
  have b5 : w2.cell? ⟨w.heap.size, 5, none⟩ = some (.int .i64 o) := (by rw [(bcell hb2).1 _ _ (by first | (simp; done) | (simp; omega) | omega)]; simp [go_sem, World.cell?_alloc_past, *])
  have b6 : w2.cell? ⟨w.heap.size, 6, none⟩ = some (.int .i64 hh) := (by rw [(bcell hb2).1 _ _ (by first | (simp; done) | (simp; omega) | omega)]; simp [go_sem, World.cell?_alloc_past, *])
  have b7 : w2.cell? ⟨w.heap.size, 7, none⟩ = some (.int .i64 (n : Int)) := (by rw [(bcell hb2).1 _ _ (by first | (simp; done) | (simp; omega) | omega)]; simp [go_sem, World.cell?_alloc_past, *])
  have bB : Below w.heap.size w w2 := (by (repeat (first | (with_reducible refine Below.drew ?_) | (with_reducible refine below_drewN ?_ _) | (with_reducible refine Below.alloc ?_ (by first | omega | (simp; done) | (simp; omega) | (simp at *; omega)) _) | (with_reducible refine Below.setCell ?_ (by first | omega | (simp; done) | (simp; omega) | (simp at *; omega)) _) | (with_reducible exact Below.refl _ _) | (with_reducible assumption) | (with_reducible refine Below.trans ?_ (Below.mono (by assumption) (by first | omega | (simp; done) | (simp; omega) | (simp at *; omega)))))))
  have bo0 : w.heap.size < w2.heap.size := by omega
  have bn0 : w2.heap.size ≠ w.heap.size := by omega
  clear hb2 a0 a1 a2 a3 a4 a5 a6 a7 aB ao0 an0
  go_upto_region 5 with (fail)
  go_cut [3, 4] from 6 (fun s3 s4 wx => ∃ q3 qf qc, s3 = .slice (some ⟨q3, qf, none⟩) T.length qc ∧ s4 = .int .i64 0 ∧ q3 < wx.heap.size ∧ LdAt wx q3 qf PE ∧ Below w2.heap.size w2 wx)
  case first =>
    have HS : ∀ w', Below w2.heap.size w2 w' → w'.cell? ⟨w.heap.size, 0, none⟩ = some (.slice A T.length cap) ∧ w'.cell? ⟨w.heap.size, 1, none⟩ = some (.slice B L.length cap') ∧ w'.cell? ⟨w.heap.size, 2, none⟩ = some (.int .i64 fr) ∧ w'.cell? ⟨w.heap.size, 3, none⟩ = some (.int .i64 tz) ∧ w'.cell? ⟨w.heap.size, 4, none⟩ = some (.int .i64 se) ∧ w'.cell? ⟨w.heap.size, 5, none⟩ = some (.int .i64 o) ∧ w'.cell? ⟨w.heap.size, 6, none⟩ = some (.int .i64 hh) ∧ w'.cell? ⟨w.heap.size, 7, none⟩ = some (.int .i64 (n : Int)) := fun w' hb => ⟨(hb.cell (p := ⟨w.heap.size, 0, none⟩) bo0).trans b0, (hb.cell (p := ⟨w.heap.size, 1, none⟩) bo0).trans b1, (hb.cell (p := ⟨w.heap.size, 2, none⟩) bo0).trans b2, (hb.cell (p := ⟨w.heap.size, 3, none⟩) bo0).trans b3, (hb.cell (p := ⟨w.heap.size, 4, none⟩) bo0).trans b4, (hb.cell (p := ⟨w.heap.size, 5, none⟩) bo0).trans b5, (hb.cell (p := ⟨w.heap.size, 6, none⟩) bo0).trans b6, (hb.cell (p := ⟨w.heap.size, 7, none⟩) bo0).trans b7⟩
    have HS' := Lib.hid HS
    clear HS
    refine wp_region_held_drew (S := (fun w' => w'.cell? ⟨w.heap.size, 0, none⟩ = some (.slice A T.length cap) ∧ w'.cell? ⟨w.heap.size, 1, none⟩ = some (.slice B L.length cap') ∧ w'.cell? ⟨w.heap.size, 2, none⟩ = some (.int .i64 fr) ∧ w'.cell? ⟨w.heap.size, 3, none⟩ = some (.int .i64 tz) ∧ w'.cell? ⟨w.heap.size, 4, none⟩ = some (.int .i64 se) ∧ w'.cell? ⟨w.heap.size, 5, none⟩ = some (.int .i64 o) ∧ w'.cell? ⟨w.heap.size, 6, none⟩ = some (.int .i64 hh) ∧ w'.cell? ⟨w.heap.size, 7, none⟩ = some (.int .i64 (n : Int)))) (by kernel_rfl) (by exact HS'.out _ (Below.refl w2.heap.size w2).drew) (fun hHeld => ?_)
    refine wpAnyH_take (i := 0) (oi := ⟨some 12, _, _, _, _, _⟩) (v := ?_) rfl (by kernel_rfl) (by kernel_rfl) (by kernel_rfl) (fun _ _ _ h => h) (Or.inl ⟨by kernel_rfl, ?_⟩) (by assumption) ?_
    rotate_left
    · (intro w hSw; (try dsimp only at hSw); go_simp; all_goals with_reducible rfl)
    try simp only [Act.put, List.setIfInBounds_toArray, List.set_cons_zero, List.set_cons_succ]
    refine wpAnyH_take (i := 1) (oi := ⟨some 13, _, _, _, _, _⟩) (v := ?_) rfl (by kernel_rfl) (by kernel_rfl) (by kernel_rfl) (fun _ _ _ h => h) (Or.inl ⟨by kernel_rfl, ?_⟩) (by assumption) ?_
    rotate_left
    · (intro w hSw; (try dsimp only at hSw); go_simp; all_goals with_reducible rfl)
    try simp only [Act.put, List.setIfInBounds_toArray, List.set_cons_zero, List.set_cons_succ]
    refine wpAnyH_take (i := 3) (oi := ⟨some 15, _, _, _, _, _⟩) (v := ?_) rfl (by kernel_rfl) (by kernel_rfl) (by kernel_rfl) (fun _ _ _ h => h) (Or.inl ⟨by kernel_rfl, ?_⟩) (by assumption) ?_
    rotate_left
    · (intro w hSw; (try dsimp only at hSw); go_simp; all_goals with_reducible rfl)
    try simp only [Act.put, List.setIfInBounds_toArray, List.set_cons_zero, List.set_cons_succ]
    refine wpAnyH_take (i := 4) (oi := ⟨some 16, _, _, _, _, _⟩) (v := ?_) rfl (by kernel_rfl) (by kernel_rfl) (by kernel_rfl) (fun _ _ _ h => h) (Or.inl ⟨by kernel_rfl, ?_⟩) (by assumption) ?_
    rotate_left
    · (intro w hSw; (try dsimp only at hSw); go_simp; all_goals with_reducible rfl)
    try simp only [Act.put, List.setIfInBounds_toArray, List.set_cons_zero, List.set_cons_succ]
    refine wpAnyH_take (i := 6) (oi := ⟨some 18, _, _, _, _, _⟩) (v := ?_) rfl (by kernel_rfl) (by kernel_rfl) (by kernel_rfl) (fun _ _ _ h => h) (Or.inl ⟨by kernel_rfl, ?_⟩) (by assumption) ?_
    rotate_left
    · (intro w hSw; (try dsimp only at hSw); go_simp; all_goals with_reducible rfl)
    try simp only [Act.put, List.setIfInBounds_toArray, List.set_cons_zero, List.set_cons_succ]
    refine wpAnyH_take (i := 7) (oi := ⟨some 19, _, _, _, _, _⟩) (v := ?_) rfl (by kernel_rfl) (by kernel_rfl) (by kernel_rfl) (fun _ _ _ h => h) (Or.inl ⟨by kernel_rfl, ?_⟩) (by assumption) ?_
    rotate_left
    · (intro w hSw; (try dsimp only at hSw); go_simp; all_goals with_reducible rfl)
    try simp only [Act.put, List.setIfInBounds_toArray, List.set_cons_zero, List.set_cons_succ]
    refine wpAnyH_take (i := 8) (oi := ⟨some 20, _, _, _, _, _⟩) (v := ?_) rfl (by kernel_rfl) (by kernel_rfl) (by kernel_rfl) (fun _ _ _ h => h) (Or.inl ⟨by kernel_rfl, ?_⟩) (by assumption) ?_
    rotate_left
    · (intro w hSw; (try dsimp only at hSw); go_simp; all_goals with_reducible rfl)
    try simp only [Act.put, List.setIfInBounds_toArray, List.set_cons_zero, List.set_cons_succ]
    refine wpAnyH_take (i := 9) (oi := ⟨some 21, _, _, _, _, _⟩) (v := ?_) rfl (by kernel_rfl) (by kernel_rfl) (by kernel_rfl) (fun _ _ _ h => h) (Or.inl ⟨by kernel_rfl, ?_⟩) (by assumption) ?_
    rotate_left
    · (intro w hSw; (try dsimp only at hSw); go_simp; all_goals with_reducible rfl)
    try simp only [Act.put, List.setIfInBounds_toArray, List.set_cons_zero, List.set_cons_succ]
    have hB0 : Below w2.heap.size w2 w2.drew := (Below.refl w2.heap.size w2).drew
    generalize hdr : w2.drew = u0 at *
    clear hdr
    refine wpAnyH_ready (rs := [2]) (by kernel_rfl) (by simp) ?_
    refine AllReadyH.cons rfl (fun K hK => ?_) (AllReadyH.nil)
    go_simp
    refine (lawTable_any T A cap _ (by omega) HNA.out (HT.out.below (bB.trans ((hB0).mono bB.size)))).mono ?_
    rintro e u1 ⟨A2, cap2, rfl, hS, _, hb1⟩
    have HT1 := Lib.hid hS
    clear hS
    have hB1 : Below w2.heap.size w2 u1 := hB0.trans (hb1.mono hB0.size)
    go_wp2_with fail
    refine hK.out _ _ (HS'.out _ (hB1)) (fun hHeld => ?_)
    clear hK K
    try simp only [Act.put, List.setIfInBounds_toArray, List.set_cons_zero, List.set_cons_succ]
    refine wpAnyH_ready (rs := [5]) (by kernel_rfl) (by simp) ?_
    refine AllReadyH.cons rfl (fun K hK => ?_) (AllReadyH.nil)
    go_simp
    refine (lawLoads_any L B cap' _ (by omega) HNB.out (HL.out.below (bB.trans ((hB1).mono bB.size)))).mono ?_
    rintro e u2 ⟨A3, cap3, rfl, hS, _, hb2⟩
    have HL2 := Lib.hid hS
    clear hS
    have HT2 := Lib.hid (HT1.out.below hb2)
    have hB2 : Below w2.heap.size w2 u2 := hB1.trans (hb2.mono hB1.size)
    go_wp2_with fail
    refine hK.out _ _ (HS'.out _ (hB2)) (fun hHeld => ?_)
    clear hK K
    try simp only [Act.put, List.setIfInBounds_toArray, List.set_cons_zero, List.set_cons_succ]
    refine wpAnyH_ready (rs := [10]) (by kernel_rfl) (by simp) ?_
    refine AllReadyH.cons rfl (fun K hK => ?_) (AllReadyH.nil)
    go_simp
    refine (Loaded_n T L L.length A2 A3 cap2 cap3 fr tz se o hh n PE _ rfl hq hg hn6 hPE HT2.out HL2.out).mono ?_
    rintro e u3 ⟨q3, qf, qc, rfl, hq1, hq2, hLL, hb3⟩
    have HLL := Lib.hid (And.intro hq2 hLL)
    clear hLL hq1 hq2
    have hB3 : Below w2.heap.size w2 u3 := hB2.trans (hb3.mono hB2.size)
    go_wp2_with fail
    refine hK.out _ _ (HS'.out _ (hB3)) (fun hHeld => ?_)
    clear hK K
    try simp only [Act.put, List.setIfInBounds_toArray, List.set_cons_zero, List.set_cons_succ]
    refine wpAnyH_take (i := 11) (oi := ⟨some 11, _, _, _, _, _⟩) (v := ?_) rfl (by kernel_rfl) (by kernel_rfl) (by kernel_rfl) (fun _ _ _ h => h) (Or.inl ⟨by kernel_rfl, ?_⟩) (by assumption) ?_
    rotate_left
    · (intro w hSw; (try dsimp only at hSw); go_simp; all_goals with_reducible rfl)
    try simp only [Act.put, List.setIfInBounds_toArray, List.set_cons_zero, List.set_cons_succ]
    refine wpAnyH_take (i := 12) (oi := ⟨some 23, _, _, _, _, _⟩) (v := ?_) rfl (by kernel_rfl) (by kernel_rfl) (by kernel_rfl) (fun _ _ _ h => h) (Or.inl ⟨by kernel_rfl, ?_⟩) (by assumption) ?_
    rotate_left
    · (intro w hSw; (try dsimp only at hSw); go_simp; all_goals with_reducible rfl)
    try simp only [Act.put, List.setIfInBounds_toArray, List.set_cons_zero, List.set_cons_succ]
    refine wpAnyH_take (i := 13) (oi := ⟨some 24, _, _, _, _, _⟩) (v := ?_) rfl (by kernel_rfl) (by kernel_rfl) (by kernel_rfl) (fun _ _ _ h => h) (Or.inl ⟨by kernel_rfl, ?_⟩) (by assumption) ?_
    rotate_left
    · (intro w hSw; (try dsimp only at hSw); go_simp; all_goals with_reducible rfl)
    try simp only [Act.put, List.setIfInBounds_toArray, List.set_cons_zero, List.set_cons_succ]
    refine wpAnyH_take (i := 14) (oi := ⟨some 3, _, _, _, _, _⟩) (v := ?_) rfl (by kernel_rfl) (by kernel_rfl) (by kernel_rfl) (fun _ _ _ h => h) (Or.inl ⟨by kernel_rfl, ?_⟩) (by assumption) ?_
    rotate_left
    · (intro w hSw; (try dsimp only at hSw); go_simp; all_goals with_reducible rfl)
    try simp only [Act.put, List.setIfInBounds_toArray, List.set_cons_zero, List.set_cons_succ]
    refine wpAnyH_take (i := 15) (oi := ⟨some 4, _, _, _, _, _⟩) (v := ?_) rfl (by kernel_rfl) (by kernel_rfl) (by kernel_rfl) (fun _ _ _ h => h) (Or.inl ⟨by kernel_rfl, ?_⟩) (by assumption) ?_
    rotate_left
    · (intro w hSw; (try dsimp only at hSw); go_simp; all_goals with_reducible rfl)
    try simp only [Act.put, List.setIfInBounds_toArray, List.set_cons_zero, List.set_cons_succ]
    refine wpAnyH_done (by kernel_rfl) ?_ _
    go_wp2_with fail
    go_meet
    exact ⟨q3, qf, qc, rfl, rfl, HLL.out.1, HLL.out.2, hB3⟩
  case rest =>
  obtain ⟨q3, qf, qc, rfl, rfl, hql, hLL, hbc⟩ := hcut
  obtain ⟨w3, hw3⟩ : ∃ V, V = wc := ⟨_, rfl⟩
  rw [← hw3] at hbc hLL hql
  rw [← hw3]
  have HP3 := Lib.hid (SlLd.of hql hLL)
  clear hw3 hLL hql
  have zc := hbc.size
  have c0 := (hbc.cell (p := ⟨w.heap.size, 0, none⟩) bo0).trans b0
  have c1 := (hbc.cell (p := ⟨w.heap.size, 1, none⟩) bo0).trans b1
  have c2 := (hbc.cell (p := ⟨w.heap.size, 2, none⟩) bo0).trans b2
  have c3 := (hbc.cell (p := ⟨w.heap.size, 3, none⟩) bo0).trans b3
  have c4 := (hbc.cell (p := ⟨w.heap.size, 4, none⟩) bo0).trans b4
  have c5 := (hbc.cell (p := ⟨w.heap.size, 5, none⟩) bo0).trans b5
  have c6 := (hbc.cell (p := ⟨w.heap.size, 6, none⟩) bo0).trans b6
  have c7 := (hbc.cell (p := ⟨w.heap.size, 7, none⟩) bo0).trans b7
  have cB : Below w.heap.size w w3 := bB.trans (hbc.mono bB.size)
  have co0 : w.heap.size < w3.heap.size := by omega
  have cn0 : w3.heap.size ≠ w.heap.size := by omega
  clear hbc b0 b1 b2 b3 b4 b5 b6 b7 bB bo0 bn0
  go_upto_region 6 with (fail)
  have HS : ∀ w', Below w3.heap.size w3 w' → w'.cell? ⟨w.heap.size, 2, none⟩ = some (.int .i64 fr) ∧ w'.cell? ⟨w.heap.size, 3, none⟩ = some (.int .i64 tz) ∧ w'.cell? ⟨w.heap.size, 4, none⟩ = some (.int .i64 se) ∧ w'.cell? ⟨w.heap.size, 5, none⟩ = some (.int .i64 o) ∧ w'.cell? ⟨w.heap.size, 6, none⟩ = some (.int .i64 hh) := fun w' hb => ⟨(hb.cell (p := ⟨w.heap.size, 2, none⟩) co0).trans c2, (hb.cell (p := ⟨w.heap.size, 3, none⟩) co0).trans c3, (hb.cell (p := ⟨w.heap.size, 4, none⟩) co0).trans c4, (hb.cell (p := ⟨w.heap.size, 5, none⟩) co0).trans c5, (hb.cell (p := ⟨w.heap.size, 6, none⟩) co0).trans c6⟩
  have HS' := Lib.hid HS
  clear HS
  refine wp_region_held_drew (S := (fun w' => w'.cell? ⟨w.heap.size, 2, none⟩ = some (.int .i64 fr) ∧ w'.cell? ⟨w.heap.size, 3, none⟩ = some (.int .i64 tz) ∧ w'.cell? ⟨w.heap.size, 4, none⟩ = some (.int .i64 se) ∧ w'.cell? ⟨w.heap.size, 5, none⟩ = some (.int .i64 o) ∧ w'.cell? ⟨w.heap.size, 6, none⟩ = some (.int .i64 hh))) (by kernel_rfl) (by exact HS'.out _ (Below.refl w3.heap.size w3).drew) (fun hHeld => ?_)
  refine wpAnyH_take (i := 0) (oi := ⟨some 25, _, _, _, _, _⟩) (v := ?_) rfl (by kernel_rfl) (by kernel_rfl) (by kernel_rfl) (fun _ _ _ h => h) (Or.inl ⟨by kernel_rfl, ?_⟩) (by assumption) ?_
  rotate_left
  · (intro w hSw; (try dsimp only at hSw); go_simp; all_goals with_reducible rfl)
  try simp only [Act.put, List.setIfInBounds_toArray, List.set_cons_zero, List.set_cons_succ]
  refine wpAnyH_take (i := 1) (oi := ⟨some 26, _, _, _, _, _⟩) (v := ?_) rfl (by kernel_rfl) (by kernel_rfl) (by kernel_rfl) (fun _ _ _ h => h) (Or.inl ⟨by kernel_rfl, ?_⟩) (by assumption) ?_
  rotate_left
  · (intro w hSw; (try dsimp only at hSw); go_simp; all_goals with_reducible rfl)
  try simp only [Act.put, List.setIfInBounds_toArray, List.set_cons_zero, List.set_cons_succ]
  refine wpAnyH_take (i := 3) (oi := ⟨some 28, _, _, _, _, _⟩) (v := ?_) rfl (by kernel_rfl) (by kernel_rfl) (by kernel_rfl) (fun _ _ _ h => h) (Or.inl ⟨by kernel_rfl, ?_⟩) (by assumption) ?_
  rotate_left
  · (intro w hSw; (try dsimp only at hSw); go_simp; all_goals with_reducible rfl)
  try simp only [Act.put, List.setIfInBounds_toArray, List.set_cons_zero, List.set_cons_succ]
  refine wpAnyH_take (i := 4) (oi := ⟨some 29, _, _, _, _, _⟩) (v := ?_) rfl (by kernel_rfl) (by kernel_rfl) (by kernel_rfl) (fun _ _ _ h => h) (Or.inl ⟨by kernel_rfl, ?_⟩) (by assumption) ?_
  rotate_left
  · (intro w hSw; (try dsimp only at hSw); go_simp; all_goals with_reducible rfl)
  try simp only [Act.put, List.setIfInBounds_toArray, List.set_cons_zero, List.set_cons_succ]
  have hB0 : Below w3.heap.size w3 w3.drew := (Below.refl w3.heap.size w3).drew
  generalize hdr : w3.drew = u0 at *
  clear hdr
  refine wpAnyH_ready (rs := [2]) (by kernel_rfl) (by simp) ?_
  refine AllReadyH.cons rfl (fun K hK => ?_) (AllReadyH.nil)
  go_simp
  refine (CheckLeg_is fr tz se o hh 0 _ hg).mono ?_
  rintro e u1 ⟨rfl, hb1⟩
  have hB1 : Below w3.heap.size w3 u1 := hB0.trans (hb1.mono hB0.size)
  go_wp2_with fail
  refine hK.out _ _ (HS'.out _ (hB1)) (fun hHeld => ?_)
  clear hK K
  try simp only [Act.put, List.setIfInBounds_toArray, List.set_cons_zero, List.set_cons_succ]
  refine wpAnyH_ready (rs := [5]) (by kernel_rfl) (by simp) ?_
  refine AllReadyH.cons rfl (fun K hK => ?_) (AllReadyH.nil)
  go_simp
  refine (refCheckLeg_is fr tz se o hh 0 _ hg).mono ?_
  rintro e w4 ⟨rfl, hb2⟩
  have hB2 : Below w3.heap.size w3 w4 := hB1.trans (hb2.mono hB1.size)
  go_wp2_with fail
  refine hK.out _ _ (HS'.out _ (hB2)) (fun hHeld => ?_)
  clear hK K
  try simp only [Act.put, List.setIfInBounds_toArray, List.set_cons_zero, List.set_cons_succ]
  refine wpAnyH_take (i := 6) (oi := ⟨some 31, _, _, _, _, _⟩) (v := ?_) rfl (by kernel_rfl) (by kernel_rfl) (by kernel_rfl) (fun _ _ _ h => h) (Or.inl ⟨by kernel_rfl, ?_⟩) (by assumption) ?_
  rotate_left
  · (intro w hSw; (try dsimp only at hSw); go_simp; all_goals with_reducible rfl)
  try simp only [Act.put, List.setIfInBounds_toArray, List.set_cons_zero, List.set_cons_succ]
  refine wpAnyH_done (by kernel_rfl) ?_ _
  have HP4 := Lib.hid (HP3.out.below hB2)
  clear HS' hHeld hB0 hB1 hb1 hb2 HP3
  have zd := hB2.size
  have d0 := (hB2.cell (p := ⟨w.heap.size, 0, none⟩) co0).trans c0
  have d1 := (hB2.cell (p := ⟨w.heap.size, 1, none⟩) co0).trans c1
  have d2 := (hB2.cell (p := ⟨w.heap.size, 2, none⟩) co0).trans c2
  have d3 := (hB2.cell (p := ⟨w.heap.size, 3, none⟩) co0).trans c3
  have d4 := (hB2.cell (p := ⟨w.heap.size, 4, none⟩) co0).trans c4
  have d5 := (hB2.cell (p := ⟨w.heap.size, 5, none⟩) co0).trans c5
  have d6 := (hB2.cell (p := ⟨w.heap.size, 6, none⟩) co0).trans c6
  have d7 := (hB2.cell (p := ⟨w.heap.size, 7, none⟩) co0).trans c7
  have dB : Below w.heap.size w w4 := cB.trans (hB2.mono cB.size)
  have do0 : w.heap.size < w4.heap.size := by omega
  have dn0 : w4.heap.size ≠ w.heap.size := by omega
  clear hB2 c0 c1 c2 c3 c4 c5 c6 c7 cB co0 cn0
  go_wp2_with fail
  refine (HCK.out _ (HT.out.below (by exact (by (repeat (first | (with_reducible refine Below.drew ?_) | (with_reducible refine below_drewN ?_ _) | (with_reducible refine Below.alloc ?_ (by first | omega | (simp; done) | (simp; omega) | (simp at *; omega)) _) | (with_reducible refine Below.setCell ?_ (by first | omega | (simp; done) | (simp; omega) | (simp at *; omega)) _) | (with_reducible exact Below.refl _ _) | (with_reducible assumption) | (with_reducible refine Below.trans ?_ (Below.mono (by assumption) (by first | omega | (simp; done) | (simp; omega) | (simp at *; omega))))))))) (HL.out.below (by exact (by (repeat (first | (with_reducible refine Below.drew ?_) | (with_reducible refine below_drewN ?_ _) | (with_reducible refine Below.alloc ?_ (by first | omega | (simp; done) | (simp; omega) | (simp at *; omega)) _) | (with_reducible refine Below.setCell ?_ (by first | omega | (simp; done) | (simp; omega) | (simp at *; omega)) _) | (with_reducible exact Below.refl _ _) | (with_reducible assumption) | (with_reducible refine Below.trans ?_ (Below.mono (by assumption) (by first | omega | (simp; done) | (simp; omega) | (simp at *; omega)))))))))).mono ?_
  rintro e w5 ⟨rfl, hb5⟩
  have HP5 := Lib.hid (HP4.out.below hb5)
  clear HP4
  have ze := hb5.size
  try simp at ze
  have e0 : w5.cell? ⟨w.heap.size, 0, none⟩ = some (.slice A T.length cap) := (by rw [(bcell hb5).1 _ _ (by first | (simp; done) | (simp; omega) | omega)]; simp [go_sem, World.cell?_alloc_past, *])
  have e1 : w5.cell? ⟨w.heap.size, 1, none⟩ = some (.slice B L.length cap') := (by rw [(bcell hb5).1 _ _ (by first | (simp; done) | (simp; omega) | omega)]; simp [go_sem, World.cell?_alloc_past, *])
  have e2 : w5.cell? ⟨w.heap.size, 2, none⟩ = some (.int .i64 fr) := (by rw [(bcell hb5).1 _ _ (by first | (simp; done) | (simp; omega) | omega)]; simp [go_sem, World.cell?_alloc_past, *])
  have e3 : w5.cell? ⟨w.heap.size, 3, none⟩ = some (.int .i64 tz) := (by rw [(bcell hb5).1 _ _ (by first | (simp; done) | (simp; omega) | omega)]; simp [go_sem, World.cell?_alloc_past, *])
  have e4 : w5.cell? ⟨w.heap.size, 4, none⟩ = some (.int .i64 se) := (by rw [(bcell hb5).1 _ _ (by first | (simp; done) | (simp; omega) | omega)]; simp [go_sem, World.cell?_alloc_past, *])
  have e5 : w5.cell? ⟨w.heap.size, 5, none⟩ = some (.int .i64 o) := (by rw [(bcell hb5).1 _ _ (by first | (simp; done) | (simp; omega) | omega)]; simp [go_sem, World.cell?_alloc_past, *])
  have e6 : w5.cell? ⟨w.heap.size, 6, none⟩ = some (.int .i64 hh) := (by rw [(bcell hb5).1 _ _ (by first | (simp; done) | (simp; omega) | omega)]; simp [go_sem, World.cell?_alloc_past, *])
  have e7 : w5.cell? ⟨w.heap.size, 7, none⟩ = some (.int .i64 (n : Int)) := (by rw [(bcell hb5).1 _ _ (by first | (simp; done) | (simp; omega) | omega)]; simp [go_sem, World.cell?_alloc_past, *])
  have eB : Below w.heap.size w w5 := (by (repeat (first | (with_reducible refine Below.drew ?_) | (with_reducible refine below_drewN ?_ _) | (with_reducible refine Below.alloc ?_ (by first | omega | (simp; done) | (simp; omega) | (simp at *; omega)) _) | (with_reducible refine Below.setCell ?_ (by first | omega | (simp; done) | (simp; omega) | (simp at *; omega)) _) | (with_reducible exact Below.refl _ _) | (with_reducible assumption) | (with_reducible refine Below.trans ?_ (Below.mono (by assumption) (by first | omega | (simp; done) | (simp; omega) | (simp at *; omega)))))))
  have eo0 : w.heap.size < w5.heap.size := by omega
  have en0 : w5.heap.size ≠ w.heap.size := by omega
  clear hb5 d0 d1 d2 d3 d4 d5 d6 d7 dB do0 dn0
  go_wp2_with fail
  refine (refLoaded_n T L L.length A B cap cap' fr tz se o hh n PE _ rfl hq hg hn6 hPE (HT.out.below (by exact (by (repeat (first | (with_reducible refine Below.drew ?_) | (with_reducible refine below_drewN ?_ _) | (with_reducible refine Below.alloc ?_ (by first | omega | (simp; done) | (simp; omega) | (simp at *; omega)) _) | (with_reducible refine Below.setCell ?_ (by first | omega | (simp; done) | (simp; omega) | (simp at *; omega)) _) | (with_reducible exact Below.refl _ _) | (with_reducible assumption) | (with_reducible refine Below.trans ?_ (Below.mono (by assumption) (by first | omega | (simp; done) | (simp; omega) | (simp at *; omega))))))))) (HL.out.below (by exact (by (repeat (first | (with_reducible refine Below.drew ?_) | (with_reducible refine below_drewN ?_ _) | (with_reducible refine Below.alloc ?_ (by first | omega | (simp; done) | (simp; omega) | (simp at *; omega)) _) | (with_reducible refine Below.setCell ?_ (by first | omega | (simp; done) | (simp; omega) | (simp at *; omega)) _) | (with_reducible exact Below.refl _ _) | (with_reducible assumption) | (with_reducible refine Below.trans ?_ (Below.mono (by assumption) (by first | omega | (simp; done) | (simp; omega) | (simp at *; omega)))))))))).mono ?_
  rintro e w6 ⟨A6, cap6, rfl, hS6, hb6⟩
  have HS6 := Lib.hid hS6
  have HP6 := Lib.hid (HP5.out.below hb6)
  clear HP5 hS6
  have zf := hb6.size
  try simp at zf
  have f0 : w6.cell? ⟨w.heap.size, 0, none⟩ = some (.slice A T.length cap) := (by rw [(bcell hb6).1 _ _ (by first | (simp; done) | (simp; omega) | omega)]; simp [go_sem, World.cell?_alloc_past, *])
  have f1 : w6.cell? ⟨w.heap.size, 1, none⟩ = some (.slice B L.length cap') := (by rw [(bcell hb6).1 _ _ (by first | (simp; done) | (simp; omega) | omega)]; simp [go_sem, World.cell?_alloc_past, *])
  have f2 : w6.cell? ⟨w.heap.size, 2, none⟩ = some (.int .i64 fr) := (by rw [(bcell hb6).1 _ _ (by first | (simp; done) | (simp; omega) | omega)]; simp [go_sem, World.cell?_alloc_past, *])
  have f3 : w6.cell? ⟨w.heap.size, 3, none⟩ = some (.int .i64 tz) := (by rw [(bcell hb6).1 _ _ (by first | (simp; done) | (simp; omega) | omega)]; simp [go_sem, World.cell?_alloc_past, *])
  have f4 : w6.cell? ⟨w.heap.size, 4, none⟩ = some (.int .i64 se) := (by rw [(bcell hb6).1 _ _ (by first | (simp; done) | (simp; omega) | omega)]; simp [go_sem, World.cell?_alloc_past, *])
  have f5 : w6.cell? ⟨w.heap.size, 5, none⟩ = some (.int .i64 o) := (by rw [(bcell hb6).1 _ _ (by first | (simp; done) | (simp; omega) | omega)]; simp [go_sem, World.cell?_alloc_past, *])
  have f6 : w6.cell? ⟨w.heap.size, 6, none⟩ = some (.int .i64 hh) := (by rw [(bcell hb6).1 _ _ (by first | (simp; done) | (simp; omega) | omega)]; simp [go_sem, World.cell?_alloc_past, *])
  have f7 : w6.cell? ⟨w.heap.size, 7, none⟩ = some (.int .i64 (n : Int)) := (by rw [(bcell hb6).1 _ _ (by first | (simp; done) | (simp; omega) | omega)]; simp [go_sem, World.cell?_alloc_past, *])
  have fB : Below w.heap.size w w6 := (by (repeat (first | (with_reducible refine Below.drew ?_) | (with_reducible refine below_drewN ?_ _) | (with_reducible refine Below.alloc ?_ (by first | omega | (simp; done) | (simp; omega) | (simp at *; omega)) _) | (with_reducible refine Below.setCell ?_ (by first | omega | (simp; done) | (simp; omega) | (simp at *; omega)) _) | (with_reducible exact Below.refl _ _) | (with_reducible assumption) | (with_reducible refine Below.trans ?_ (Below.mono (by assumption) (by first | omega | (simp; done) | (simp; omega) | (simp at *; omega)))))))
  have fo0 : w.heap.size < w6.heap.size := by omega
  have fn0 : w6.heap.size ≠ w.heap.size := by omega
  clear hb6 e0 e1 e2 e3 e4 e5 e6 e7 eB eo0 en0
  go_wp2_with fail
  refine (refSame_g PE T.length (some ⟨q3, qf, none⟩) A6 qc cap6 _ hpl.out (by omega) HP6.out HS6.out).mono ?_
  rintro e w7 ⟨rfl, hb7⟩
  have HP7 := Lib.hid (HP6.out.below hb7)
  clear HP6 HS6
  have zi := hb7.size
  try simp at zi
  have i0 : w7.cell? ⟨w.heap.size, 0, none⟩ = some (.slice A T.length cap) := (by rw [(bcell hb7).1 _ _ (by first | (simp; done) | (simp; omega) | omega)]; simp [go_sem, World.cell?_alloc_past, *])
  have i1 : w7.cell? ⟨w.heap.size, 1, none⟩ = some (.slice B L.length cap') := (by rw [(bcell hb7).1 _ _ (by first | (simp; done) | (simp; omega) | omega)]; simp [go_sem, World.cell?_alloc_past, *])
  have i2 : w7.cell? ⟨w.heap.size, 2, none⟩ = some (.int .i64 fr) := (by rw [(bcell hb7).1 _ _ (by first | (simp; done) | (simp; omega) | omega)]; simp [go_sem, World.cell?_alloc_past, *])
  have i3 : w7.cell? ⟨w.heap.size, 3, none⟩ = some (.int .i64 tz) := (by rw [(bcell hb7).1 _ _ (by first | (simp; done) | (simp; omega) | omega)]; simp [go_sem, World.cell?_alloc_past, *])
  have i4 : w7.cell? ⟨w.heap.size, 4, none⟩ = some (.int .i64 se) := (by rw [(bcell hb7).1 _ _ (by first | (simp; done) | (simp; omega) | omega)]; simp [go_sem, World.cell?_alloc_past, *])
  have i5 : w7.cell? ⟨w.heap.size, 5, none⟩ = some (.int .i64 o) := (by rw [(bcell hb7).1 _ _ (by first | (simp; done) | (simp; omega) | omega)]; simp [go_sem, World.cell?_alloc_past, *])
  have i6 : w7.cell? ⟨w.heap.size, 6, none⟩ = some (.int .i64 hh) := (by rw [(bcell hb7).1 _ _ (by first | (simp; done) | (simp; omega) | omega)]; simp [go_sem, World.cell?_alloc_past, *])
  have i7 : w7.cell? ⟨w.heap.size, 7, none⟩ = some (.int .i64 (n : Int)) := (by rw [(bcell hb7).1 _ _ (by first | (simp; done) | (simp; omega) | omega)]; simp [go_sem, World.cell?_alloc_past, *])
  have iB : Below w.heap.size w w7 := (by (repeat (first | (with_reducible refine Below.drew ?_) | (with_reducible refine below_drewN ?_ _) | (with_reducible refine Below.alloc ?_ (by first | omega | (simp; done) | (simp; omega) | (simp at *; omega)) _) | (with_reducible refine Below.setCell ?_ (by first | omega | (simp; done) | (simp; omega) | (simp at *; omega)) _) | (with_reducible exact Below.refl _ _) | (with_reducible assumption) | (with_reducible refine Below.trans ?_ (Below.mono (by assumption) (by first | omega | (simp; done) | (simp; omega) | (simp at *; omega)))))))
  have io0 : w.heap.size < w7.heap.size := by omega
  have in0 : w7.heap.size ≠ w.heap.size := by omega
  clear hb7 f0 f1 f2 f3 f4 f5 f6 f7 fB fo0 fn0
  go_wp2_with fail
  refine (lawTable_any T A cap _ (by omega) HNA.out (HT.out.below (by exact (by (repeat (first | (with_reducible refine Below.drew ?_) | (with_reducible refine below_drewN ?_ _) | (with_reducible refine Below.alloc ?_ (by first | omega | (simp; done) | (simp; omega) | (simp at *; omega)) _) | (with_reducible refine Below.setCell ?_ (by first | omega | (simp; done) | (simp; omega) | (simp at *; omega)) _) | (with_reducible exact Below.refl _ _) | (with_reducible assumption) | (with_reducible refine Below.trans ?_ (Below.mono (by assumption) (by first | omega | (simp; done) | (simp; omega) | (simp at *; omega)))))))))).mono ?_
  rintro e w8 ⟨A8, cap8, rfl, hS8, _, hb8⟩
  have HS8 := Lib.hid hS8
  have HP8 := Lib.hid (HP7.out.below hb8)
  clear HP7 hS8
  have zj := hb8.size
  try simp at zj
  have j0 : w8.cell? ⟨w.heap.size, 0, none⟩ = some (.slice A T.length cap) := (by rw [(bcell hb8).1 _ _ (by first | (simp; done) | (simp; omega) | omega)]; simp [go_sem, World.cell?_alloc_past, *])
  have j1 : w8.cell? ⟨w.heap.size, 1, none⟩ = some (.slice B L.length cap') := (by rw [(bcell hb8).1 _ _ (by first | (simp; done) | (simp; omega) | omega)]; simp [go_sem, World.cell?_alloc_past, *])
  have j2 : w8.cell? ⟨w.heap.size, 2, none⟩ = some (.int .i64 fr) := (by rw [(bcell hb8).1 _ _ (by first | (simp; done) | (simp; omega) | omega)]; simp [go_sem, World.cell?_alloc_past, *])
  have j3 : w8.cell? ⟨w.heap.size, 3, none⟩ = some (.int .i64 tz) := (by rw [(bcell hb8).1 _ _ (by first | (simp; done) | (simp; omega) | omega)]; simp [go_sem, World.cell?_alloc_past, *])
  have j4 : w8.cell? ⟨w.heap.size, 4, none⟩ = some (.int .i64 se) := (by rw [(bcell hb8).1 _ _ (by first | (simp; done) | (simp; omega) | omega)]; simp [go_sem, World.cell?_alloc_past, *])
  have j5 : w8.cell? ⟨w.heap.size, 5, none⟩ = some (.int .i64 o) := (by rw [(bcell hb8).1 _ _ (by first | (simp; done) | (simp; omega) | omega)]; simp [go_sem, World.cell?_alloc_past, *])
  have j6 : w8.cell? ⟨w.heap.size, 6, none⟩ = some (.int .i64 hh) := (by rw [(bcell hb8).1 _ _ (by first | (simp; done) | (simp; omega) | omega)]; simp [go_sem, World.cell?_alloc_past, *])
  have j7 : w8.cell? ⟨w.heap.size, 7, none⟩ = some (.int .i64 (n : Int)) := (by rw [(bcell hb8).1 _ _ (by first | (simp; done) | (simp; omega) | omega)]; simp [go_sem, World.cell?_alloc_past, *])
  have jB : Below w.heap.size w w8 := (by (repeat (first | (with_reducible refine Below.drew ?_) | (with_reducible refine below_drewN ?_ _) | (with_reducible refine Below.alloc ?_ (by first | omega | (simp; done) | (simp; omega) | (simp at *; omega)) _) | (with_reducible refine Below.setCell ?_ (by first | omega | (simp; done) | (simp; omega) | (simp at *; omega)) _) | (with_reducible exact Below.refl _ _) | (with_reducible assumption) | (with_reducible refine Below.trans ?_ (Below.mono (by assumption) (by first | omega | (simp; done) | (simp; omega) | (simp at *; omega)))))))
  have jo0 : w.heap.size < w8.heap.size := by omega
  have jn0 : w8.heap.size ≠ w.heap.size := by omega
  clear hb8 i0 i1 i2 i3 i4 i5 i6 i7 iB io0 in0
  go_wp2_with fail
  refine (CheckLoads_g T PE T.length A8 (some ⟨q3, qf, none⟩) cap8 qc 0 _ hpl.out (by omega) (by omega) hpf HS8.out HP8.out).mono ?_
  rintro e w9 ⟨rfl, hb9⟩
  have hB9 : Below w.heap.size w w9 := (by (repeat (first | (with_reducible refine Below.drew ?_) | (with_reducible refine below_drewN ?_ _) | (with_reducible refine Below.alloc ?_ (by first | omega | (simp; done) | (simp; omega) | (simp at *; omega)) _) | (with_reducible refine Below.setCell ?_ (by first | omega | (simp; done) | (simp; omega) | (simp at *; omega)) _) | (with_reducible exact Below.refl _ _) | (with_reducible assumption) | (with_reducible refine Below.trans ?_ (Below.mono (by assumption) (by first | omega | (simp; done) | (simp; omega) | (simp at *; omega)))))))
  clear hb9
  go_wp2
  go_ret
  exact ⟨by first | rfl | simp, hB9⟩
theorem tissueLoads_any (T : List Cm) (L : List Ld) (A B : Option Addr) (cap cap' : Nat) (fr tz se o hh fi : Int) (w : World) (hl : T.length ≤ 9223372036854775807) (hl' : L.length ≤ 9223372036854775807) (hA : A = none → cap = 0) (hB : B = none → cap' = 0) (hT : SlCm w A T) (hL : SlLd w B L) :
    Calls Try.prog 6 #[.agg #[.slice A T.length cap, .slice B L.length cap', .int .i64 fr, .int .i64 tz, .int .i64 se, .int .i64 o, .int .i64 hh, .int .i64 fi]] w fun e w' => e = .returned (.bool true) ∧ Below w.heap.size w w' := by
  cases hli : (fewB T.length && decide (L.length ≤ 19)) with
  | false => exact tissueLoads_dark T L A B cap cap' fr tz se o hh fi w hl hl' hA hB hT hL hli
  | true =>
    by_cases hz : firE [loadsE T L, legE fr tz se o hh, rngE fi 0 6] = 0
    · exact tissueLoads_good T L A B cap cap' fr tz se o hh fi w hl hl' hA hB hT hL hli hz
    · exact tissueLoads_bad T L A B cap cap' fr tz se o hh fi w hl hl' hA hB hT hL hli hz
end Go.Proofs.Ytchfhhmmjioajaa
