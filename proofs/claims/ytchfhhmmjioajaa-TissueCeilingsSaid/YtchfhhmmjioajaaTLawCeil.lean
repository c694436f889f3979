/- The walk of shotlinelaw03.TissueCeilings: it returns true. -/
import Derived.Test.YtchfhhmmjioajaaMKepts
import Derived.Test.YtchfhhmmjioajaaTCeilG
import Derived.Test.YtchfhhmmjioajaaTCeilM
import Derived.Outline
namespace Go.Proofs.Ytchfhhmmjioajaa
open Go.ChangeShapes Go.WideShapes Go.ChangeAt Go.RowKit
set_option linter.unusedVariables false
set_option linter.unusedSimpArgs false
attribute [local go_sem ↓] Go.wp_at_zero Go.wp_at_succ
noncomputable def ceilX (T : List Cm) (L : List Ld) (f : Int) : Int := if ceilE T L f = 0 then (ceilR f T L 0 0).1 else 0
noncomputable def ceilY (T : List Cm) (L : List Ld) (f : Int) : Int := if ceilE T L f = 0 then (ceilR f T L 0 0).2 else 0
theorem firE_2z {x y : Int} (h : firE [x, y] = 0) : x = 0 ∧ y = 0 := by
  unfold firE at h
  by_cases hx : x = 0
  · by_cases hy : y = 0
    · exact ⟨hx, hy⟩
    · simp [hx, hy, firE] at h
  · simp [hx, firE] at h
theorem Ceiling_x (T : List Cm) (L : List Ld) (A B : Option Addr) (cap cap' : Nat) (f x y g : Int) (w : World) (hl : T.length ≤ 1000000) (hl' : L.length ≤ 1000000) (hx : Hid (ceilX T L f = x)) (hy : Hid (ceilY T L f = y)) (hg : Hid (ceilE T L f = g)) (HT : Hid (SlCm w A T)) (HL : Hid (SlLd w B L)) :
    Calls Try.prog 52 #[.slice A T.length cap, .slice B L.length cap', .int .i64 f] w fun e w' => e = .returned (.tuple #[.agg #[.int .i64 x, .int .i64 y], .int .i64 g]) ∧ Below w.heap.size w w' := by
  rcases ez2 g with ⟨hz0, hzb⟩ | ⟨hz0, hzb⟩
  · have h0 := hz0.out
    subst h0
    have hg' := hg.out
    unfold ceilE at hg'
    obtain ⟨h1, h2⟩ := firE_2z hg'
    obtain ⟨f0, f1⟩ := rng_0 h2
    have hc : Hid (ceilR f T L 0 0 = (x, y)) := by
      have e1 := hx.out
      have e2 := hy.out
      unfold ceilX at e1
      unfold ceilY at e2
      rw [if_pos hg.out] at e1 e2
      show _ = _
      rw [← e1, ← e2]
    exact Ceiling_good T L A B cap cap' f x y w hl hl' hg (Lib.hid (fit_of h1)) f0 f1 hc HT HL
  · have e1 : x = 0 := by have := hx.out; unfold ceilX at this; rw [if_neg (by rw [hg.out]; exact hz0.out)] at this; exact this.symm
    have e2 : y = 0 := by have := hy.out; unfold ceilY at this; rw [if_neg (by rw [hg.out]; exact hz0.out)] at this; exact this.symm
    subst e1 e2
    exact Ceiling_bad T L A B cap cap' f g w hl hl' hg hzb HT HL
theorem ceilE_q {T : List Cm} {L : List Ld} {f q : Int} (hq : loadsE T L = q) (h : q ≠ 0) : ceilE T L f = q := by
  unfold ceilE firE
  rw [hq, if_neg h]
theorem ceilE_2 {T : List Cm} {L : List Ld} {f : Int} (hq : loadsE T L = 0) (h : inB f 0 1000 = false) : ceilE T L f = 2 := by
  unfold ceilE
  rw [hq, rngE_f h]; rfl
theorem ceilE_0 {T : List Cm} {L : List Ld} {f : Int} (hq : loadsE T L = 0) (h : inB f 0 1000 = true) : ceilE T L f = 0 := by
  unfold ceilE
  rw [hq, rngE_t h]; rfl
set_option maxRecDepth 100000 in
set_option maxHeartbeats 8000000 in
theorem tissueCeilings_any (T : List Cm) (L : List Ld) (A B : Option Addr) (cap cap' : Nat) (fr tz se o hh fi fa fb : Int) (w : World) (hl : T.length ≤ 9223372036854775807) (hl' : L.length ≤ 9223372036854775807) (hA : A = none → cap = 0) (hB : B = none → cap' = 0) (hT : SlCm w A T) (hL : SlLd w B L) :
    Calls Try.prog 11 #[.agg #[.slice A T.length cap, .slice B L.length cap', .int .i64 fr, .int .i64 tz, .int .i64 se, .int .i64 o, .int .i64 hh, .int .i64 fi], .agg #[.int .i64 fa, .int .i64 fb]] w fun e w' => e = .returned (.bool true) ∧ Below w.heap.size w w' := by
  have HT := Lib.hid hT
  have HL := Lib.hid hL
  have HNA := Lib.hid hA
  have HNB := Lib.hid hB
  clear hT hL hA hB
  cases hli : (fewB T.length && decide (L.length ≤ 19)) with
  | false =>
    have HLI := Lib.hid (fun w => light_is T L A B cap cap' fr tz se o hh fi false w hl' (Lib.hid hli))
    clear hli
    go_enter Try.func11, Try.ntmps11
    go_wp2_with fail
    refine (tawake_any _).mono ?_
    rintro e w1 ⟨rfl, hb1⟩
    have za := hb1.size
    try simp at za
    have a0 : w1.cell? ⟨w.heap.size, 0, none⟩ = some (.slice A T.length cap) := (by rw [(bcell hb1).1 _ _ (by first | (simp; done) | (simp; omega) | omega)]; simp [go_sem, World.cell?_alloc_past, *])
    have a1 : w1.cell? ⟨w.heap.size, 1, none⟩ = some (.slice B L.length cap') := (by rw [(bcell hb1).1 _ _ (by first | (simp; done) | (simp; omega) | omega)]; simp [go_sem, World.cell?_alloc_past, *])
    have a2 : w1.cell? ⟨w.heap.size, 2, none⟩ = some (.int .i64 fr) := (by rw [(bcell hb1).1 _ _ (by first | (simp; done) | (simp; omega) | omega)]; simp [go_sem, World.cell?_alloc_past, *])
    have a3 : w1.cell? ⟨w.heap.size, 3, none⟩ = some (.int .i64 tz) := (by rw [(bcell hb1).1 _ _ (by first | (simp; done) | (simp; omega) | omega)]; simp [go_sem, World.cell?_alloc_past, *])
    have a4 : w1.cell? ⟨w.heap.size, 4, none⟩ = some (.int .i64 se) := (by rw [(bcell hb1).1 _ _ (by first | (simp; done) | (simp; omega) | omega)]; simp [go_sem, World.cell?_alloc_past, *])
    have a5 : w1.cell? ⟨w.heap.size, 5, none⟩ = some (.int .i64 o) := (by rw [(bcell hb1).1 _ _ (by first | (simp; done) | (simp; omega) | omega)]; simp [go_sem, World.cell?_alloc_past, *])
    have a6 : w1.cell? ⟨w.heap.size, 6, none⟩ = some (.int .i64 hh) := (by rw [(bcell hb1).1 _ _ (by first | (simp; done) | (simp; omega) | omega)]; simp [go_sem, World.cell?_alloc_past, *])
    have a7 : w1.cell? ⟨w.heap.size, 7, none⟩ = some (.int .i64 fi) := (by rw [(bcell hb1).1 _ _ (by first | (simp; done) | (simp; omega) | omega)]; simp [go_sem, World.cell?_alloc_past, *])
    have a8 : w1.cell? ⟨w.heap.size + 1, 0, none⟩ = some (.int .i64 fa) := (by rw [(bcell hb1).1 _ _ (by first | (simp; done) | (simp; omega) | omega)]; simp [go_sem, World.cell?_alloc_past, *])
    have a9 : w1.cell? ⟨w.heap.size + 1, 1, none⟩ = some (.int .i64 fb) := (by rw [(bcell hb1).1 _ _ (by first | (simp; done) | (simp; omega) | omega)]; simp [go_sem, World.cell?_alloc_past, *])
    have aB : Below w.heap.size w w1 := (by (repeat (first | (with_reducible refine Below.drew ?_) | (with_reducible refine below_drewN ?_ _) | (with_reducible refine Below.alloc ?_ (by first | omega | (simp; done) | (simp; omega) | (simp at *; omega)) _) | (with_reducible refine Below.setCell ?_ (by first | omega | (simp; done) | (simp; omega) | (simp at *; omega)) _) | (with_reducible exact Below.refl _ _) | (with_reducible assumption) | (with_reducible refine Below.trans ?_ (Below.mono (by assumption) (by first | omega | (simp; done) | (simp; omega) | (simp at *; omega)))))))
    have ao0 : w.heap.size < w1.heap.size := by omega
    have an0 : w1.heap.size ≠ w.heap.size := by omega
    have ao1 : w.heap.size + 1 < w1.heap.size := by omega
    have an1 : w1.heap.size ≠ w.heap.size + 1 := by omega
    clear hb1
    go_wp2_with fail
    refine (HLI.out _).mono ?_
    rintro e w2 ⟨rfl, hb2⟩
    have hB2 : Below w.heap.size w w2 := (by (repeat (first | (with_reducible refine Below.drew ?_) | (with_reducible refine below_drewN ?_ _) | (with_reducible refine Below.alloc ?_ (by first | omega | (simp; done) | (simp; omega) | (simp at *; omega)) _) | (with_reducible refine Below.setCell ?_ (by first | omega | (simp; done) | (simp; omega) | (simp at *; omega)) _) | (with_reducible exact Below.refl _ _) | (with_reducible assumption) | (with_reducible refine Below.trans ?_ (Below.mono (by assumption) (by first | omega | (simp; done) | (simp; omega) | (simp at *; omega)))))))
    clear hb2
    go_wp2
    go_ret
    exact ⟨by first | rfl | simp, hB2⟩
  | true =>
  have HLI := Lib.hid (fun w => light_is T L A B cap cap' fr tz se o hh fi true w hl' (Lib.hid hli))
  have hlt : T.length ≤ 18 := few_le (by cases h0 : fewB T.length with | true => rfl | false => rw [h0] at hli; simp at hli)
  have hll : L.length ≤ 19 := by cases h0 : fewB T.length with | true => rw [h0] at hli; simpa using hli | false => rw [h0] at hli; simp at hli
  clear hli
  obtain ⟨q, hq⟩ : ∃ z, Hid (loadsE T L = z) := ⟨_, Lib.hid rfl⟩
  obtain ⟨g, hg⟩ : ∃ z, Hid (ceilE T L fa = z) := ⟨_, Lib.hid rfl⟩
  obtain ⟨x, hx⟩ : ∃ z, Hid (ceilX T L fa = z) := ⟨_, Lib.hid rfl⟩
  obtain ⟨y, hy⟩ : ∃ z, Hid (ceilY T L fa = z) := ⟨_, Lib.hid rfl⟩
  go_enter Try.func11, Try.ntmps11
  go_wp2_with fail
  refine (tawake_any _).mono ?_
  rintro e w1 ⟨rfl, hb1⟩
  have za := hb1.size
  try simp at za
  have a0 : w1.cell? ⟨w.heap.size, 0, none⟩ = some (.slice A T.length cap) := (by rw [(bcell hb1).1 _ _ (by first | (simp; done) | (simp; omega) | omega)]; simp [go_sem, World.cell?_alloc_past, *])
  have a1 : w1.cell? ⟨w.heap.size, 1, none⟩ = some (.slice B L.length cap') := (by rw [(bcell hb1).1 _ _ (by first | (simp; done) | (simp; omega) | omega)]; simp [go_sem, World.cell?_alloc_past, *])
  have a2 : w1.cell? ⟨w.heap.size, 2, none⟩ = some (.int .i64 fr) := (by rw [(bcell hb1).1 _ _ (by first | (simp; done) | (simp; omega) | omega)]; simp [go_sem, World.cell?_alloc_past, *])
  have a3 : w1.cell? ⟨w.heap.size, 3, none⟩ = some (.int .i64 tz) := (by rw [(bcell hb1).1 _ _ (by first | (simp; done) | (simp; omega) | omega)]; simp [go_sem, World.cell?_alloc_past, *])
  have a4 : w1.cell? ⟨w.heap.size, 4, none⟩ = some (.int .i64 se) := (by rw [(bcell hb1).1 _ _ (by first | (simp; done) | (simp; omega) | omega)]; simp [go_sem, World.cell?_alloc_past, *])
  have a5 : w1.cell? ⟨w.heap.size, 5, none⟩ = some (.int .i64 o) := (by rw [(bcell hb1).1 _ _ (by first | (simp; done) | (simp; omega) | omega)]; simp [go_sem, World.cell?_alloc_past, *])
  have a6 : w1.cell? ⟨w.heap.size, 6, none⟩ = some (.int .i64 hh) := (by rw [(bcell hb1).1 _ _ (by first | (simp; done) | (simp; omega) | omega)]; simp [go_sem, World.cell?_alloc_past, *])
  have a7 : w1.cell? ⟨w.heap.size, 7, none⟩ = some (.int .i64 fi) := (by rw [(bcell hb1).1 _ _ (by first | (simp; done) | (simp; omega) | omega)]; simp [go_sem, World.cell?_alloc_past, *])
  have a8 : w1.cell? ⟨w.heap.size + 1, 0, none⟩ = some (.int .i64 fa) := (by rw [(bcell hb1).1 _ _ (by first | (simp; done) | (simp; omega) | omega)]; simp [go_sem, World.cell?_alloc_past, *])
  have a9 : w1.cell? ⟨w.heap.size + 1, 1, none⟩ = some (.int .i64 fb) := (by rw [(bcell hb1).1 _ _ (by first | (simp; done) | (simp; omega) | omega)]; simp [go_sem, World.cell?_alloc_past, *])
  have aB : Below w.heap.size w w1 := (by (repeat (first | (with_reducible refine Below.drew ?_) | (with_reducible refine below_drewN ?_ _) | (with_reducible refine Below.alloc ?_ (by first | omega | (simp; done) | (simp; omega) | (simp at *; omega)) _) | (with_reducible refine Below.setCell ?_ (by first | omega | (simp; done) | (simp; omega) | (simp at *; omega)) _) | (with_reducible exact Below.refl _ _) | (with_reducible assumption) | (with_reducible refine Below.trans ?_ (Below.mono (by assumption) (by first | omega | (simp; done) | (simp; omega) | (simp at *; omega)))))))
  have ao0 : w.heap.size < w1.heap.size := by omega
  have an0 : w1.heap.size ≠ w.heap.size := by omega
  have ao1 : w.heap.size + 1 < w1.heap.size := by omega
  have an1 : w1.heap.size ≠ w.heap.size + 1 := by omega
  clear hb1
  go_wp2_with fail
  refine (HLI.out _).mono ?_
  rintro e w2 ⟨rfl, hb2⟩
  have zb := hb2.size
  try simp at zb
  have b0 : w2.cell? ⟨w.heap.size, 0, none⟩ = some (.slice A T.length cap) := (by rw [(bcell hb2).1 _ _ (by first | (simp; done) | (simp; omega) | omega)]; simp [go_sem, World.cell?_alloc_past, *])
  have b1 : w2.cell? ⟨w.heap.size, 1, none⟩ = some (.slice B L.length cap') := (by rw [(bcell hb2).1 _ _ (by first | (simp; done) | (simp; omega) | omega)]; simp [go_sem, World.cell?_alloc_past, *])
  have b2 : w2.cell? ⟨w.heap.size, 2, none⟩ = some (.int .i64 fr) := (by rw [(bcell hb2).1 _ _ (by first | (simp; done) | (simp; omega) | omega)]; simp [go_sem, World.cell?_alloc_past, *])
  have b3 : w2.cell? ⟨w.heap.size, 3, none⟩ = some (.int .i64 tz) := (by rw [(bcell hb2).1 _ _ (by first | (simp; done) | (simp; omega) | omega)]; simp [go_sem, World.cell?_alloc_past, *])
  have b4 : w2.cell? ⟨w.heap.size, 4, none⟩ = some (.int .i64 se) := (by rw [(bcell hb2).1 _ _ (by first | (simp; done) | (simp; omega) | omega)]; simp [go_sem, World.cell?_alloc_past, *])
  have b5 : w2.cell? ⟨w.heap.size, 5, none⟩ = some (.int .i64 o) := (by rw [(bcell hb2).1 _ _ (by first | (simp; done) | (simp; omega) | omega)]; simp [go_sem, World.cell?_alloc_past, *])
  have b6 : w2.cell? ⟨w.heap.size, 6, none⟩ = some (.int .i64 hh) := (by rw [(bcell hb2).1 _ _ (by first | (simp; done) | (simp; omega) | omega)]; simp [go_sem, World.cell?_alloc_past, *])
  have b7 : w2.cell? ⟨w.heap.size, 7, none⟩ = some (.int .i64 fi) := (by rw [(bcell hb2).1 _ _ (by first | (simp; done) | (simp; omega) | omega)]; simp [go_sem, World.cell?_alloc_past, *])
  have b8 : w2.cell? ⟨w.heap.size + 1, 0, none⟩ = some (.int .i64 fa) := (by rw [(bcell hb2).1 _ _ (by first | (simp; done) | (simp; omega) | omega)]; simp [go_sem, World.cell?_alloc_past, *])
  have b9 : w2.cell? ⟨w.heap.size + 1, 1, none⟩ = some (.int .i64 fb) := (by rw [(bcell hb2).1 _ _ (by first | (simp; done) | (simp; omega) | omega)]; simp [go_sem, World.cell?_alloc_past, *])
  have bB : Below w.heap.size w w2 := (by (repeat (first | (with_reducible refine Below.drew ?_) | (with_reducible refine below_drewN ?_ _) | (with_reducible refine Below.alloc ?_ (by first | omega | (simp; done) | (simp; omega) | (simp at *; omega)) _) | (with_reducible refine Below.setCell ?_ (by first | omega | (simp; done) | (simp; omega) | (simp at *; omega)) _) | (with_reducible exact Below.refl _ _) | (with_reducible assumption) | (with_reducible refine Below.trans ?_ (Below.mono (by assumption) (by first | omega | (simp; done) | (simp; omega) | (simp at *; omega)))))))
  have bo0 : w.heap.size < w2.heap.size := by omega
  have bn0 : w2.heap.size ≠ w.heap.size := by omega
  have bo1 : w.heap.size + 1 < w2.heap.size := by omega
  have bn1 : w2.heap.size ≠ w.heap.size + 1 := by omega
  clear hb2 a0 a1 a2 a3 a4 a5 a6 a7 a8 a9 aB ao0 an0 ao1 an1
  go_upto_region 5 with (fail)
  go_cut [5, 6] from 14 (fun s5 s6 wx => ∃ rb5, s5 = .pointer (some ⟨rb5, 0, none⟩) ∧ s6 = .int .i64 g ∧ w2.heap.size ≤ rb5 ∧ rb5 < wx.heap.size ∧ wx.cell? ⟨rb5, 0, none⟩ = some (.int .i64 x) ∧ wx.cell? ⟨rb5, 1, none⟩ = some (.int .i64 y) ∧ Below w2.heap.size w2 wx)
  case first =>
    have HS : ∀ w', Below w2.heap.size w2 w' → w'.cell? ⟨w.heap.size, 0, none⟩ = some (.slice A T.length cap) ∧ w'.cell? ⟨w.heap.size, 1, none⟩ = some (.slice B L.length cap') ∧ w'.cell? ⟨w.heap.size + 1, 0, none⟩ = some (.int .i64 fa) := fun w' hb => ⟨(hb.cell (p := ⟨w.heap.size, 0, none⟩) bo0).trans b0, (hb.cell (p := ⟨w.heap.size, 1, none⟩) bo0).trans b1, (hb.cell (p := ⟨w.heap.size + 1, 0, none⟩) bo1).trans b8⟩
    have HS' := Lib.hid HS
    clear HS
    refine wp_region_held_drew (S := (fun w' => w'.cell? ⟨w.heap.size, 0, none⟩ = some (.slice A T.length cap) ∧ w'.cell? ⟨w.heap.size, 1, none⟩ = some (.slice B L.length cap') ∧ w'.cell? ⟨w.heap.size + 1, 0, none⟩ = some (.int .i64 fa))) (by kernel_rfl) (by exact HS'.out _ (Below.refl w2.heap.size w2).drew) (fun hHeld => ?_)
    refine wpAnyH_take (i := 0) (oi := ⟨some 20, _, _, _, _, _⟩) (v := ?_) rfl (by kernel_rfl) (by kernel_rfl) (by kernel_rfl) (fun _ _ _ h => h) (Or.inl ⟨by kernel_rfl, ?_⟩) (by assumption) ?_
    rotate_left
    · (intro w hSw; (try dsimp only at hSw); go_simp; all_goals with_reducible rfl)
    try simp only [Act.put, List.setIfInBounds_toArray, List.set_cons_zero, List.set_cons_succ]
    refine wpAnyH_take (i := 1) (oi := ⟨some 21, _, _, _, _, _⟩) (v := ?_) rfl (by kernel_rfl) (by kernel_rfl) (by kernel_rfl) (fun _ _ _ h => h) (Or.inl ⟨by kernel_rfl, ?_⟩) (by assumption) ?_
    rotate_left
    · (intro w hSw; (try dsimp only at hSw); go_simp; all_goals with_reducible rfl)
    try simp only [Act.put, List.setIfInBounds_toArray, List.set_cons_zero, List.set_cons_succ]
    refine wpAnyH_take (i := 3) (oi := ⟨some 23, _, _, _, _, _⟩) (v := ?_) rfl (by kernel_rfl) (by kernel_rfl) (by kernel_rfl) (fun _ _ _ h => h) (Or.inl ⟨by kernel_rfl, ?_⟩) (by assumption) ?_
    rotate_left
    · (intro w hSw; (try dsimp only at hSw); go_simp; all_goals with_reducible rfl)
    try simp only [Act.put, List.setIfInBounds_toArray, List.set_cons_zero, List.set_cons_succ]
    refine wpAnyH_take (i := 4) (oi := ⟨some 24, _, _, _, _, _⟩) (v := ?_) rfl (by kernel_rfl) (by kernel_rfl) (by kernel_rfl) (fun _ _ _ h => h) (Or.inl ⟨by kernel_rfl, ?_⟩) (by assumption) ?_
    rotate_left
    · (intro w hSw; (try dsimp only at hSw); go_simp; all_goals with_reducible rfl)
    try simp only [Act.put, List.setIfInBounds_toArray, List.set_cons_zero, List.set_cons_succ]
    refine wpAnyH_take (i := 6) (oi := ⟨some 26, _, _, _, _, _⟩) (v := ?_) rfl (by kernel_rfl) (by kernel_rfl) (by kernel_rfl) (fun _ _ _ h => h) (Or.inl ⟨by kernel_rfl, ?_⟩) (by assumption) ?_
    rotate_left
    · (intro w hSw; (try dsimp only at hSw); go_simp; all_goals with_reducible rfl)
    try simp only [Act.put, List.setIfInBounds_toArray, List.set_cons_zero, List.set_cons_succ]
    refine wpAnyH_take (i := 7) (oi := ⟨some 27, _, _, _, _, _⟩) (v := ?_) rfl (by kernel_rfl) (by kernel_rfl) (by kernel_rfl) (fun _ _ _ h => h) (Or.inl ⟨by kernel_rfl, ?_⟩) (by assumption) ?_
    rotate_left
    · (intro w hSw; (try dsimp only at hSw); go_simp; all_goals with_reducible rfl)
    try simp only [Act.put, List.setIfInBounds_toArray, List.set_cons_zero, List.set_cons_succ]
    have hB0 : Below w2.heap.size w2 w2.drew := (Below.refl w2.heap.size w2).drew
    generalize hdr : w2.drew = u0 at *
    clear hdr
    refine wpAnyH_ready (rs := [2, 12]) (by kernel_rfl) (by simp) ?_
    refine AllReadyH.cons rfl (fun K hK => ?_) (AllReadyH.cons rfl (fun K hK => ?_) (AllReadyH.nil))
    · skip
      go_simp
      refine (lawTable_any T A cap _ (by omega) HNA.out (HT.out.below (bB.trans ((hB0).mono bB.size)))).mono ?_
      rintro e u1 ⟨A2, cap2, rfl, hS, _, hb1⟩
      have HT_1 := Lib.hid hS
      clear hS
      have hB1 : Below w2.heap.size w2 u1 := (hB0).trans (hb1.mono (hB0).size)
      go_wp2_with fail
      refine hK.out _ _ (HS'.out _ (hB1)) (fun hHeld => ?_)
      clear hK K
      try simp only [Act.put, List.setIfInBounds_toArray, List.set_cons_zero, List.set_cons_succ]
      refine wpAnyH_ready (rs := [5, 12]) (by kernel_rfl) (by simp) ?_
      refine AllReadyH.cons rfl (fun K hK => ?_) (AllReadyH.cons rfl (fun K hK => ?_) (AllReadyH.nil))
      · skip
        go_simp
        refine (lawLoads_any L B cap' _ (by omega) HNB.out (HL.out.below (bB.trans ((hB1).mono bB.size)))).mono ?_
        rintro e u2 ⟨A3, cap3, rfl, hS, _, hb2⟩
        have HL_2 := Lib.hid hS
        clear hS
        have hB2 : Below w2.heap.size w2 u2 := (hB1).trans (hb2.mono (hB1).size)
        have HT_2 := Lib.hid (HT_1.out.below hb2)
        go_wp2_with fail
        refine hK.out _ _ (HS'.out _ (hB2)) (fun hHeld => ?_)
        clear hK K
        try simp only [Act.put, List.setIfInBounds_toArray, List.set_cons_zero, List.set_cons_succ]
        refine wpAnyH_ready (rs := [8, 12]) (by kernel_rfl) (by simp) ?_
        refine AllReadyH.cons rfl (fun K hK => ?_) (AllReadyH.cons rfl (fun K hK => ?_) (AllReadyH.nil))
        · skip
          go_simp
          refine (Ceiling_x T L A2 A3 cap2 cap3 fa x y g _ (by omega) (by omega) hx hy hg (Lib.hid HT_2.out) (Lib.hid HL_2.out)).mono ?_
          rintro e u3 ⟨rfl, hb3⟩
          have hB3 : Below w2.heap.size w2 u3 := (hB2).trans (hb3.mono (hB2).size)
          have HT_3 := Lib.hid (HT_2.out.below hb3)
          have HL_3 := Lib.hid (HL_2.out.below hb3)
          go_wp2_with fail
          refine hK.out _ _ (HS'.out _ (hB3)) (fun hHeld => ?_)
          clear hK K
          try simp only [Act.put, List.setIfInBounds_toArray, List.set_cons_zero, List.set_cons_succ]
          refine wpAnyH_take (i := 9) (oi := ⟨some 19, _, _, _, _, _⟩) (v := ?_) rfl (by kernel_rfl) (by kernel_rfl) (by kernel_rfl) (fun _ _ _ h => h) (Or.inl ⟨by kernel_rfl, ?_⟩) (by assumption) ?_
          rotate_left
          · (intro w hSw; (try dsimp only at hSw); go_simp; all_goals with_reducible rfl)
          try simp only [Act.put, List.setIfInBounds_toArray, List.set_cons_zero, List.set_cons_succ]
          refine wpAnyH_take (i := 10) (oi := ⟨some 29, _, _, _, _, _⟩) (v := ?_) rfl (by kernel_rfl) (by kernel_rfl) (by kernel_rfl) (fun _ _ _ h => h) (Or.inl ⟨by kernel_rfl, ?_⟩) (by assumption) ?_
          rotate_left
          · (intro w hSw; (try dsimp only at hSw); go_simp; all_goals with_reducible rfl)
          try simp only [Act.put, List.setIfInBounds_toArray, List.set_cons_zero, List.set_cons_succ]
          refine wpAnyH_take (i := 11) (oi := ⟨some 30, _, _, _, _, _⟩) (v := ?_) rfl (by kernel_rfl) (by kernel_rfl) (by kernel_rfl) (fun _ _ _ h => h) (Or.inl ⟨by kernel_rfl, ?_⟩) (by assumption) ?_
          rotate_left
          · (intro w hSw; (try dsimp only at hSw); go_simp; all_goals with_reducible rfl)
          try simp only [Act.put, List.setIfInBounds_toArray, List.set_cons_zero, List.set_cons_succ]
          refine wpAnyH_ready (rs := [12]) (by kernel_rfl) (by simp) ?_
          refine AllReadyH.cons rfl (fun K hK => ?_) (AllReadyH.nil)
          go_simp
          go_wp2_with fail
          refine hK.out _ _ (HS'.out _ ((hB3).alloc (hB3).size _)) (fun hHeld => ?_)
          clear hK K
          try simp only [Act.put, List.setIfInBounds_toArray, List.set_cons_zero, List.set_cons_succ]
          generalize hq4 : u3.alloc (.cells #[.int .i64 0, .int .i64 0] 24) = u4
          have hb4 : Below u3.heap.size u3 u4 := by rw [← hq4]; exact (Below.refl _ _).alloc (Nat.le_refl _) _
          have hB4 : Below w2.heap.size w2 u4 := (hB3).trans (hb4.mono (hB3).size)
          have HT_4 := Lib.hid (HT_3.out.below hb4)
          have HL_4 := Lib.hid (HL_3.out.below hb4)
          have h5_4 : (∀ i, i < 2 → ∃ v, u4.cell? ⟨u3.heap.size, i, none⟩ = some v) ∧ (∀ j, u4.frozen? ⟨u3.heap.size, j, none⟩ = false) := by rw [← hq4]; exact new2_is u3 _ _ _
          have q5_4 : u3.heap.size < u4.heap.size := by rw [← hq4]; simp
          have g5 : w2.heap.size ≤ u3.heap.size := (hB3).size
          clear hq4
          obtain ⟨⟨ev0, e0⟩, ⟨ev1, e1⟩⟩ := And.intro (h5_4.1 0 (by omega)) (h5_4.1 1 (by omega))
          have ef := h5_4.2
          have HH := Lib.hid (set2_is (X := u4) (b := u3.heap.size) (.int .i64 x) (.int .i64 y) h5_4.1 h5_4.2)
          have HBs := Lib.hid (set2_below (u0 := .int .i64 x) (u1 := .int .i64 y) hB4 g5)
          refine wpAnyH_ready (rs := [13]) (by kernel_rfl) (by simp) ?_
          refine AllReadyH.cons rfl (fun K hK => ?_) (AllReadyH.nil)
          go_simp
          go_wp2_with fail
          refine hK.out _ _ (HS'.out _ (HBs.out)) (fun hHeld => ?_)
          clear hK K
          try simp only [Act.put, List.setIfInBounds_toArray, List.set_cons_zero, List.set_cons_succ]
          refine wpAnyH_take (i := 14) (oi := ⟨some 6, _, _, _, _, _⟩) (v := ?_) rfl (by kernel_rfl) (by kernel_rfl) (by kernel_rfl) (fun _ _ _ h => h) (Or.inl ⟨by kernel_rfl, ?_⟩) (by assumption) ?_
          rotate_left
          · (intro w hSw; (try dsimp only at hSw); go_simp; all_goals with_reducible rfl)
          try simp only [Act.put, List.setIfInBounds_toArray, List.set_cons_zero, List.set_cons_succ]
          refine wpAnyH_done (by kernel_rfl) ?_ _
          go_wp2_with fail
          go_meet
          exact ⟨u3.heap.size, rfl, rfl, g5, (by have := q5_4; simpa [size_set] using this), HH.out.1, HH.out.2.1, HBs.out⟩
        · skip
          go_simp
          go_wp2_with fail
          refine hK.out _ _ (HS'.out _ ((hB2).alloc (hB2).size _)) (fun hHeld => ?_)
          clear hK K
          try simp only [Act.put, List.setIfInBounds_toArray, List.set_cons_zero, List.set_cons_succ]
          generalize hq3 : u2.alloc (.cells #[.int .i64 0, .int .i64 0] 24) = u3
          have hb3 : Below u2.heap.size u2 u3 := by rw [← hq3]; exact (Below.refl _ _).alloc (Nat.le_refl _) _
          have hB3 : Below w2.heap.size w2 u3 := (hB2).trans (hb3.mono (hB2).size)
          have HT_3 := Lib.hid (HT_2.out.below hb3)
          have HL_3 := Lib.hid (HL_2.out.below hb3)
          have h5_3 : (∀ i, i < 2 → ∃ v, u3.cell? ⟨u2.heap.size, i, none⟩ = some v) ∧ (∀ j, u3.frozen? ⟨u2.heap.size, j, none⟩ = false) := by rw [← hq3]; exact new2_is u2 _ _ _
          have q5_3 : u2.heap.size < u3.heap.size := by rw [← hq3]; simp
          have g5 : w2.heap.size ≤ u2.heap.size := (hB2).size
          clear hq3
          refine wpAnyH_ready (rs := [8]) (by kernel_rfl) (by simp) ?_
          refine AllReadyH.cons rfl (fun K hK => ?_) (AllReadyH.nil)
          go_simp
          refine (Ceiling_x T L A2 A3 cap2 cap3 fa x y g _ (by omega) (by omega) hx hy hg (Lib.hid HT_3.out) (Lib.hid HL_3.out)).mono ?_
          rintro e u4 ⟨rfl, hb4⟩
          have hB4 : Below w2.heap.size w2 u4 := (hB3).trans (hb4.mono (hB3).size)
          have HT_4 := Lib.hid (HT_3.out.below hb4)
          have HL_4 := Lib.hid (HL_3.out.below hb4)
          have h5_4 := has2_below (b := u2.heap.size) h5_3 hb4 q5_3
          have q5_4 : u2.heap.size < u4.heap.size := Nat.lt_of_lt_of_le q5_3 hb4.size
          go_wp2_with fail
          refine hK.out _ _ (HS'.out _ (hB4)) (fun hHeld => ?_)
          clear hK K
          try simp only [Act.put, List.setIfInBounds_toArray, List.set_cons_zero, List.set_cons_succ]
          refine wpAnyH_take (i := 9) (oi := ⟨some 19, _, _, _, _, _⟩) (v := ?_) rfl (by kernel_rfl) (by kernel_rfl) (by kernel_rfl) (fun _ _ _ h => h) (Or.inl ⟨by kernel_rfl, ?_⟩) (by assumption) ?_
          rotate_left
          · (intro w hSw; (try dsimp only at hSw); go_simp; all_goals with_reducible rfl)
          try simp only [Act.put, List.setIfInBounds_toArray, List.set_cons_zero, List.set_cons_succ]
          refine wpAnyH_take (i := 10) (oi := ⟨some 29, _, _, _, _, _⟩) (v := ?_) rfl (by kernel_rfl) (by kernel_rfl) (by kernel_rfl) (fun _ _ _ h => h) (Or.inl ⟨by kernel_rfl, ?_⟩) (by assumption) ?_
          rotate_left
          · (intro w hSw; (try dsimp only at hSw); go_simp; all_goals with_reducible rfl)
          try simp only [Act.put, List.setIfInBounds_toArray, List.set_cons_zero, List.set_cons_succ]
          refine wpAnyH_take (i := 11) (oi := ⟨some 30, _, _, _, _, _⟩) (v := ?_) rfl (by kernel_rfl) (by kernel_rfl) (by kernel_rfl) (fun _ _ _ h => h) (Or.inl ⟨by kernel_rfl, ?_⟩) (by assumption) ?_
          rotate_left
          · (intro w hSw; (try dsimp only at hSw); go_simp; all_goals with_reducible rfl)
          try simp only [Act.put, List.setIfInBounds_toArray, List.set_cons_zero, List.set_cons_succ]
          obtain ⟨⟨ev0, e0⟩, ⟨ev1, e1⟩⟩ := And.intro (h5_4.1 0 (by omega)) (h5_4.1 1 (by omega))
          have ef := h5_4.2
          have HH := Lib.hid (set2_is (X := u4) (b := u2.heap.size) (.int .i64 x) (.int .i64 y) h5_4.1 h5_4.2)
          have HBs := Lib.hid (set2_below (u0 := .int .i64 x) (u1 := .int .i64 y) hB4 g5)
          refine wpAnyH_ready (rs := [13]) (by kernel_rfl) (by simp) ?_
          refine AllReadyH.cons rfl (fun K hK => ?_) (AllReadyH.nil)
          go_simp
          go_wp2_with fail
          refine hK.out _ _ (HS'.out _ (HBs.out)) (fun hHeld => ?_)
          clear hK K
          try simp only [Act.put, List.setIfInBounds_toArray, List.set_cons_zero, List.set_cons_succ]
          refine wpAnyH_take (i := 14) (oi := ⟨some 6, _, _, _, _, _⟩) (v := ?_) rfl (by kernel_rfl) (by kernel_rfl) (by kernel_rfl) (fun _ _ _ h => h) (Or.inl ⟨by kernel_rfl, ?_⟩) (by assumption) ?_
          rotate_left
          · (intro w hSw; (try dsimp only at hSw); go_simp; all_goals with_reducible rfl)
          try simp only [Act.put, List.setIfInBounds_toArray, List.set_cons_zero, List.set_cons_succ]
          refine wpAnyH_done (by kernel_rfl) ?_ _
          go_wp2_with fail
          go_meet
          exact ⟨u2.heap.size, rfl, rfl, g5, (by have := q5_4; simpa [size_set] using this), HH.out.1, HH.out.2.1, HBs.out⟩
      · skip
        go_simp
        go_wp2_with fail
        refine hK.out _ _ (HS'.out _ ((hB1).alloc (hB1).size _)) (fun hHeld => ?_)
        clear hK K
        try simp only [Act.put, List.setIfInBounds_toArray, List.set_cons_zero, List.set_cons_succ]
        generalize hq2 : u1.alloc (.cells #[.int .i64 0, .int .i64 0] 24) = u2
        have hb2 : Below u1.heap.size u1 u2 := by rw [← hq2]; exact (Below.refl _ _).alloc (Nat.le_refl _) _
        have hB2 : Below w2.heap.size w2 u2 := (hB1).trans (hb2.mono (hB1).size)
        have HT_2 := Lib.hid (HT_1.out.below hb2)
        have h5_2 : (∀ i, i < 2 → ∃ v, u2.cell? ⟨u1.heap.size, i, none⟩ = some v) ∧ (∀ j, u2.frozen? ⟨u1.heap.size, j, none⟩ = false) := by rw [← hq2]; exact new2_is u1 _ _ _
        have q5_2 : u1.heap.size < u2.heap.size := by rw [← hq2]; simp
        have g5 : w2.heap.size ≤ u1.heap.size := (hB1).size
        clear hq2
        refine wpAnyH_ready (rs := [5]) (by kernel_rfl) (by simp) ?_
        refine AllReadyH.cons rfl (fun K hK => ?_) (AllReadyH.nil)
        go_simp
        refine (lawLoads_any L B cap' _ (by omega) HNB.out (HL.out.below (bB.trans ((hB2).mono bB.size)))).mono ?_
        rintro e u3 ⟨A3, cap3, rfl, hS, _, hb3⟩
        have HL_3 := Lib.hid hS
        clear hS
        have hB3 : Below w2.heap.size w2 u3 := (hB2).trans (hb3.mono (hB2).size)
        have HT_3 := Lib.hid (HT_2.out.below hb3)
        have h5_3 := has2_below (b := u1.heap.size) h5_2 hb3 q5_2
        have q5_3 : u1.heap.size < u3.heap.size := Nat.lt_of_lt_of_le q5_2 hb3.size
        go_wp2_with fail
        refine hK.out _ _ (HS'.out _ (hB3)) (fun hHeld => ?_)
        clear hK K
        try simp only [Act.put, List.setIfInBounds_toArray, List.set_cons_zero, List.set_cons_succ]
        refine wpAnyH_ready (rs := [8]) (by kernel_rfl) (by simp) ?_
        refine AllReadyH.cons rfl (fun K hK => ?_) (AllReadyH.nil)
        go_simp
        refine (Ceiling_x T L A2 A3 cap2 cap3 fa x y g _ (by omega) (by omega) hx hy hg (Lib.hid HT_3.out) (Lib.hid HL_3.out)).mono ?_
        rintro e u4 ⟨rfl, hb4⟩
        have hB4 : Below w2.heap.size w2 u4 := (hB3).trans (hb4.mono (hB3).size)
        have HT_4 := Lib.hid (HT_3.out.below hb4)
        have HL_4 := Lib.hid (HL_3.out.below hb4)
        have h5_4 := has2_below (b := u1.heap.size) h5_3 hb4 q5_3
        have q5_4 : u1.heap.size < u4.heap.size := Nat.lt_of_lt_of_le q5_3 hb4.size
        go_wp2_with fail
        refine hK.out _ _ (HS'.out _ (hB4)) (fun hHeld => ?_)
        clear hK K
        try simp only [Act.put, List.setIfInBounds_toArray, List.set_cons_zero, List.set_cons_succ]
        refine wpAnyH_take (i := 9) (oi := ⟨some 19, _, _, _, _, _⟩) (v := ?_) rfl (by kernel_rfl) (by kernel_rfl) (by kernel_rfl) (fun _ _ _ h => h) (Or.inl ⟨by kernel_rfl, ?_⟩) (by assumption) ?_
        rotate_left
        · (intro w hSw; (try dsimp only at hSw); go_simp; all_goals with_reducible rfl)
        try simp only [Act.put, List.setIfInBounds_toArray, List.set_cons_zero, List.set_cons_succ]
        refine wpAnyH_take (i := 10) (oi := ⟨some 29, _, _, _, _, _⟩) (v := ?_) rfl (by kernel_rfl) (by kernel_rfl) (by kernel_rfl) (fun _ _ _ h => h) (Or.inl ⟨by kernel_rfl, ?_⟩) (by assumption) ?_
        rotate_left
        · (intro w hSw; (try dsimp only at hSw); go_simp; all_goals with_reducible rfl)
        try simp only [Act.put, List.setIfInBounds_toArray, List.set_cons_zero, List.set_cons_succ]
        refine wpAnyH_take (i := 11) (oi := ⟨some 30, _, _, _, _, _⟩) (v := ?_) rfl (by kernel_rfl) (by kernel_rfl) (by kernel_rfl) (fun _ _ _ h => h) (Or.inl ⟨by kernel_rfl, ?_⟩) (by assumption) ?_
        rotate_left
        · (intro w hSw; (try dsimp only at hSw); go_simp; all_goals with_reducible rfl)
        try simp only [Act.put, List.setIfInBounds_toArray, List.set_cons_zero, List.set_cons_succ]
        obtain ⟨⟨ev0, e0⟩, ⟨ev1, e1⟩⟩ := And.intro (h5_4.1 0 (by omega)) (h5_4.1 1 (by omega))
        have ef := h5_4.2
        have HH := Lib.hid (set2_is (X := u4) (b := u1.heap.size) (.int .i64 x) (.int .i64 y) h5_4.1 h5_4.2)
        have HBs := Lib.hid (set2_below (u0 := .int .i64 x) (u1 := .int .i64 y) hB4 g5)
        refine wpAnyH_ready (rs := [13]) (by kernel_rfl) (by simp) ?_
        refine AllReadyH.cons rfl (fun K hK => ?_) (AllReadyH.nil)
        go_simp
        go_wp2_with fail
        refine hK.out _ _ (HS'.out _ (HBs.out)) (fun hHeld => ?_)
        clear hK K
        try simp only [Act.put, List.setIfInBounds_toArray, List.set_cons_zero, List.set_cons_succ]
        refine wpAnyH_take (i := 14) (oi := ⟨some 6, _, _, _, _, _⟩) (v := ?_) rfl (by kernel_rfl) (by kernel_rfl) (by kernel_rfl) (fun _ _ _ h => h) (Or.inl ⟨by kernel_rfl, ?_⟩) (by assumption) ?_
        rotate_left
        · (intro w hSw; (try dsimp only at hSw); go_simp; all_goals with_reducible rfl)
        try simp only [Act.put, List.setIfInBounds_toArray, List.set_cons_zero, List.set_cons_succ]
        refine wpAnyH_done (by kernel_rfl) ?_ _
        go_wp2_with fail
        go_meet
        exact ⟨u1.heap.size, rfl, rfl, g5, (by have := q5_4; simpa [size_set] using this), HH.out.1, HH.out.2.1, HBs.out⟩
    · skip
      go_simp
      go_wp2_with fail
      refine hK.out _ _ (HS'.out _ ((hB0).alloc (hB0).size _)) (fun hHeld => ?_)
      clear hK K
      try simp only [Act.put, List.setIfInBounds_toArray, List.set_cons_zero, List.set_cons_succ]
      generalize hq1 : u0.alloc (.cells #[.int .i64 0, .int .i64 0] 24) = u1
      have hb1 : Below u0.heap.size u0 u1 := by rw [← hq1]; exact (Below.refl _ _).alloc (Nat.le_refl _) _
      have hB1 : Below w2.heap.size w2 u1 := (hB0).trans (hb1.mono (hB0).size)
      have h5_1 : (∀ i, i < 2 → ∃ v, u1.cell? ⟨u0.heap.size, i, none⟩ = some v) ∧ (∀ j, u1.frozen? ⟨u0.heap.size, j, none⟩ = false) := by rw [← hq1]; exact new2_is u0 _ _ _
      have q5_1 : u0.heap.size < u1.heap.size := by rw [← hq1]; simp
      have g5 : w2.heap.size ≤ u0.heap.size := (hB0).size
      clear hq1
      refine wpAnyH_ready (rs := [2]) (by kernel_rfl) (by simp) ?_
      refine AllReadyH.cons rfl (fun K hK => ?_) (AllReadyH.nil)
      go_simp
      refine (lawTable_any T A cap _ (by omega) HNA.out (HT.out.below (bB.trans ((hB1).mono bB.size)))).mono ?_
      rintro e u2 ⟨A2, cap2, rfl, hS, _, hb2⟩
      have HT_2 := Lib.hid hS
      clear hS
      have hB2 : Below w2.heap.size w2 u2 := (hB1).trans (hb2.mono (hB1).size)
      have h5_2 := has2_below (b := u0.heap.size) h5_1 hb2 q5_1
      have q5_2 : u0.heap.size < u2.heap.size := Nat.lt_of_lt_of_le q5_1 hb2.size
      go_wp2_with fail
      refine hK.out _ _ (HS'.out _ (hB2)) (fun hHeld => ?_)
      clear hK K
      try simp only [Act.put, List.setIfInBounds_toArray, List.set_cons_zero, List.set_cons_succ]
      refine wpAnyH_ready (rs := [5]) (by kernel_rfl) (by simp) ?_
      refine AllReadyH.cons rfl (fun K hK => ?_) (AllReadyH.nil)
      go_simp
      refine (lawLoads_any L B cap' _ (by omega) HNB.out (HL.out.below (bB.trans ((hB2).mono bB.size)))).mono ?_
      rintro e u3 ⟨A3, cap3, rfl, hS, _, hb3⟩
      have HL_3 := Lib.hid hS
      clear hS
      have hB3 : Below w2.heap.size w2 u3 := (hB2).trans (hb3.mono (hB2).size)
      have HT_3 := Lib.hid (HT_2.out.below hb3)
      have h5_3 := has2_below (b := u0.heap.size) h5_2 hb3 q5_2
      have q5_3 : u0.heap.size < u3.heap.size := Nat.lt_of_lt_of_le q5_2 hb3.size
      go_wp2_with fail
      refine hK.out _ _ (HS'.out _ (hB3)) (fun hHeld => ?_)
      clear hK K
      try simp only [Act.put, List.setIfInBounds_toArray, List.set_cons_zero, List.set_cons_succ]
      refine wpAnyH_ready (rs := [8]) (by kernel_rfl) (by simp) ?_
      refine AllReadyH.cons rfl (fun K hK => ?_) (AllReadyH.nil)
      go_simp
      refine (Ceiling_x T L A2 A3 cap2 cap3 fa x y g _ (by omega) (by omega) hx hy hg (Lib.hid HT_3.out) (Lib.hid HL_3.out)).mono ?_
      rintro e u4 ⟨rfl, hb4⟩
      have hB4 : Below w2.heap.size w2 u4 := (hB3).trans (hb4.mono (hB3).size)
      have HT_4 := Lib.hid (HT_3.out.below hb4)
      have HL_4 := Lib.hid (HL_3.out.below hb4)
      have h5_4 := has2_below (b := u0.heap.size) h5_3 hb4 q5_3
      have q5_4 : u0.heap.size < u4.heap.size := Nat.lt_of_lt_of_le q5_3 hb4.size
      go_wp2_with fail
      refine hK.out _ _ (HS'.out _ (hB4)) (fun hHeld => ?_)
      clear hK K
      try simp only [Act.put, List.setIfInBounds_toArray, List.set_cons_zero, List.set_cons_succ]
      refine wpAnyH_take (i := 9) (oi := ⟨some 19, _, _, _, _, _⟩) (v := ?_) rfl (by kernel_rfl) (by kernel_rfl) (by kernel_rfl) (fun _ _ _ h => h) (Or.inl ⟨by kernel_rfl, ?_⟩) (by assumption) ?_
      rotate_left
      · (intro w hSw; (try dsimp only at hSw); go_simp; all_goals with_reducible rfl)
      try simp only [Act.put, List.setIfInBounds_toArray, List.set_cons_zero, List.set_cons_succ]
      refine wpAnyH_take (i := 10) (oi := ⟨some 29, _, _, _, _, _⟩) (v := ?_) rfl (by kernel_rfl) (by kernel_rfl) (by kernel_rfl) (fun _ _ _ h => h) (Or.inl ⟨by kernel_rfl, ?_⟩) (by assumption) ?_
      rotate_left
      · (intro w hSw; (try dsimp only at hSw); go_simp; all_goals with_reducible rfl)
      try simp only [Act.put, List.setIfInBounds_toArray, List.set_cons_zero, List.set_cons_succ]
      refine wpAnyH_take (i := 11) (oi := ⟨some 30, _, _, _, _, _⟩) (v := ?_) rfl (by kernel_rfl) (by kernel_rfl) (by kernel_rfl) (fun _ _ _ h => h) (Or.inl ⟨by kernel_rfl, ?_⟩) (by assumption) ?_
      rotate_left
      · (intro w hSw; (try dsimp only at hSw); go_simp; all_goals with_reducible rfl)
      try simp only [Act.put, List.setIfInBounds_toArray, List.set_cons_zero, List.set_cons_succ]
      obtain ⟨⟨ev0, e0⟩, ⟨ev1, e1⟩⟩ := And.intro (h5_4.1 0 (by omega)) (h5_4.1 1 (by omega))
      have ef := h5_4.2
      have HH := Lib.hid (set2_is (X := u4) (b := u0.heap.size) (.int .i64 x) (.int .i64 y) h5_4.1 h5_4.2)
      have HBs := Lib.hid (set2_below (u0 := .int .i64 x) (u1 := .int .i64 y) hB4 g5)
      refine wpAnyH_ready (rs := [13]) (by kernel_rfl) (by simp) ?_
      refine AllReadyH.cons rfl (fun K hK => ?_) (AllReadyH.nil)
      go_simp
      go_wp2_with fail
      refine hK.out _ _ (HS'.out _ (HBs.out)) (fun hHeld => ?_)
      clear hK K
      try simp only [Act.put, List.setIfInBounds_toArray, List.set_cons_zero, List.set_cons_succ]
      refine wpAnyH_take (i := 14) (oi := ⟨some 6, _, _, _, _, _⟩) (v := ?_) rfl (by kernel_rfl) (by kernel_rfl) (by kernel_rfl) (fun _ _ _ h => h) (Or.inl ⟨by kernel_rfl, ?_⟩) (by assumption) ?_
      rotate_left
      · (intro w hSw; (try dsimp only at hSw); go_simp; all_goals with_reducible rfl)
      try simp only [Act.put, List.setIfInBounds_toArray, List.set_cons_zero, List.set_cons_succ]
      refine wpAnyH_done (by kernel_rfl) ?_ _
      go_wp2_with fail
      go_meet
      exact ⟨u0.heap.size, rfl, rfl, g5, (by have := q5_4; simpa [size_set] using this), HH.out.1, HH.out.2.1, HBs.out⟩
  case rest =>
  obtain ⟨rb5, rfl, rfl, g5, l5, x0, x1, hbc⟩ := hcut
  obtain ⟨w3, hw3⟩ : ∃ V, V = wc := ⟨_, rfl⟩
  rw [← hw3] at l5 x0 x1 hbc
  rw [← hw3]
  clear hw3
  have zc := hbc.size
  have c0 := (hbc.cell (p := ⟨w.heap.size, 0, none⟩) bo0).trans b0
  have c1 := (hbc.cell (p := ⟨w.heap.size, 1, none⟩) bo0).trans b1
  have c2 := (hbc.cell (p := ⟨w.heap.size, 2, none⟩) bo0).trans b2
  have c3 := (hbc.cell (p := ⟨w.heap.size, 3, none⟩) bo0).trans b3
  have c4 := (hbc.cell (p := ⟨w.heap.size, 4, none⟩) bo0).trans b4
  have c5 := (hbc.cell (p := ⟨w.heap.size, 5, none⟩) bo0).trans b5
  have c6 := (hbc.cell (p := ⟨w.heap.size, 6, none⟩) bo0).trans b6
  have c7 := (hbc.cell (p := ⟨w.heap.size, 7, none⟩) bo0).trans b7
  have c8 := (hbc.cell (p := ⟨w.heap.size + 1, 0, none⟩) bo1).trans b8
  have c9 := (hbc.cell (p := ⟨w.heap.size + 1, 1, none⟩) bo1).trans b9
  have cB : Below w.heap.size w w3 := bB.trans (hbc.mono bB.size)
  have co0 : w.heap.size < w3.heap.size := by omega
  have cn0 : w3.heap.size ≠ w.heap.size := by omega
  have co1 : w.heap.size + 1 < w3.heap.size := by omega
  have cn1 : w3.heap.size ≠ w.heap.size + 1 := by omega
  clear hbc b0 b1 b2 b3 b4 b5 b6 b7 b8 b9 bB bo0 bn0 bo1 bn1
  have c10 := x0
  have c11 := x1
  have co2 := l5
  have cn2 : w3.heap.size ≠ rb5 := by omega
  have nb1 : rb5 ≠ w.heap.size := by omega
  have nb2 : rb5 ≠ w.heap.size + 1 := by omega
  clear x0 x1 l5 g5
  go_wp2_with fail
  refine (refCheckLoads_is T L A B cap cap' q _ hl hl' hq (HT.out.below (by exact (by (repeat (first | (with_reducible refine Below.drew ?_) | (with_reducible refine below_drewN ?_ _) | (with_reducible refine Below.alloc ?_ (by first | omega | (simp; done) | (simp; omega) | (simp at *; omega)) _) | (with_reducible refine Below.setCell ?_ (by first | omega | (simp; done) | (simp; omega) | (simp at *; omega)) _) | (with_reducible exact Below.refl _ _) | (with_reducible assumption) | (with_reducible refine Below.trans ?_ (Below.mono (by assumption) (by first | omega | (simp; done) | (simp; omega) | (simp at *; omega))))))))) (HL.out.below (by exact (by (repeat (first | (with_reducible refine Below.drew ?_) | (with_reducible refine below_drewN ?_ _) | (with_reducible refine Below.alloc ?_ (by first | omega | (simp; done) | (simp; omega) | (simp at *; omega)) _) | (with_reducible refine Below.setCell ?_ (by first | omega | (simp; done) | (simp; omega) | (simp at *; omega)) _) | (with_reducible exact Below.refl _ _) | (with_reducible assumption) | (with_reducible refine Below.trans ?_ (Below.mono (by assumption) (by first | omega | (simp; done) | (simp; omega) | (simp at *; omega)))))))))).mono ?_
  rintro e w4 ⟨rfl, hb4⟩
  have zd := hb4.size
  try simp at zd
  have d0 : w4.cell? ⟨w.heap.size, 0, none⟩ = some (.slice A T.length cap) := (by rw [(bcell hb4).1 _ _ (by first | (simp; done) | (simp; omega) | omega)]; simp [go_sem, World.cell?_alloc_past, *])
  have d1 : w4.cell? ⟨w.heap.size, 1, none⟩ = some (.slice B L.length cap') := (by rw [(bcell hb4).1 _ _ (by first | (simp; done) | (simp; omega) | omega)]; simp [go_sem, World.cell?_alloc_past, *])
  have d2 : w4.cell? ⟨w.heap.size, 2, none⟩ = some (.int .i64 fr) := (by rw [(bcell hb4).1 _ _ (by first | (simp; done) | (simp; omega) | omega)]; simp [go_sem, World.cell?_alloc_past, *])
  have d3 : w4.cell? ⟨w.heap.size, 3, none⟩ = some (.int .i64 tz) := (by rw [(bcell hb4).1 _ _ (by first | (simp; done) | (simp; omega) | omega)]; simp [go_sem, World.cell?_alloc_past, *])
  have d4 : w4.cell? ⟨w.heap.size, 4, none⟩ = some (.int .i64 se) := (by rw [(bcell hb4).1 _ _ (by first | (simp; done) | (simp; omega) | omega)]; simp [go_sem, World.cell?_alloc_past, *])
  have d5 : w4.cell? ⟨w.heap.size, 5, none⟩ = some (.int .i64 o) := (by rw [(bcell hb4).1 _ _ (by first | (simp; done) | (simp; omega) | omega)]; simp [go_sem, World.cell?_alloc_past, *])
  have d6 : w4.cell? ⟨w.heap.size, 6, none⟩ = some (.int .i64 hh) := (by rw [(bcell hb4).1 _ _ (by first | (simp; done) | (simp; omega) | omega)]; simp [go_sem, World.cell?_alloc_past, *])
  have d7 : w4.cell? ⟨w.heap.size, 7, none⟩ = some (.int .i64 fi) := (by rw [(bcell hb4).1 _ _ (by first | (simp; done) | (simp; omega) | omega)]; simp [go_sem, World.cell?_alloc_past, *])
  have d8 : w4.cell? ⟨w.heap.size + 1, 0, none⟩ = some (.int .i64 fa) := (by rw [(bcell hb4).1 _ _ (by first | (simp; done) | (simp; omega) | omega)]; simp [go_sem, World.cell?_alloc_past, *])
  have d9 : w4.cell? ⟨w.heap.size + 1, 1, none⟩ = some (.int .i64 fb) := (by rw [(bcell hb4).1 _ _ (by first | (simp; done) | (simp; omega) | omega)]; simp [go_sem, World.cell?_alloc_past, *])
  have d10 : w4.cell? ⟨rb5, 0, none⟩ = some (.int .i64 x) := (by rw [(bcell hb4).1 _ _ (by first | (simp; done) | (simp; omega) | omega)]; simp [go_sem, World.cell?_alloc_past, *])
  have d11 : w4.cell? ⟨rb5, 1, none⟩ = some (.int .i64 y) := (by rw [(bcell hb4).1 _ _ (by first | (simp; done) | (simp; omega) | omega)]; simp [go_sem, World.cell?_alloc_past, *])
  have dB : Below w.heap.size w w4 := (by (repeat (first | (with_reducible refine Below.drew ?_) | (with_reducible refine below_drewN ?_ _) | (with_reducible refine Below.alloc ?_ (by first | omega | (simp; done) | (simp; omega) | (simp at *; omega)) _) | (with_reducible refine Below.setCell ?_ (by first | omega | (simp; done) | (simp; omega) | (simp at *; omega)) _) | (with_reducible exact Below.refl _ _) | (with_reducible assumption) | (with_reducible refine Below.trans ?_ (Below.mono (by assumption) (by first | omega | (simp; done) | (simp; omega) | (simp at *; omega)))))))
  have do0 : w.heap.size < w4.heap.size := by omega
  have dn0 : w4.heap.size ≠ w.heap.size := by omega
  have do1 : w.heap.size + 1 < w4.heap.size := by omega
  have dn1 : w4.heap.size ≠ w.heap.size + 1 := by omega
  have do2 : rb5 < w4.heap.size := by omega
  have dn2 : w4.heap.size ≠ rb5 := by omega
  clear hb4 c0 c1 c2 c3 c4 c5 c6 c7 c8 c9 c10 c11 cB co0 cn0 co1 cn1 co2 cn2
  rcases ez2 q with ⟨hz0, hzb⟩ | ⟨hz0, hzb⟩
  rotate_left
  · have hgv : g = q := by rw [← hg.out]; exact ceilE_q hq.out hz0.out
    have hxv : x = 0 := by rw [← hx.out, ceilX, if_neg (by rw [hg.out, hgv]; exact hz0.out)]
    have hyv : y = 0 := by rw [← hy.out, ceilY, if_neg (by rw [hg.out, hgv]; exact hz0.out)]
    have q2 : (q == 0) = false := by simpa using hz0.out
    subst hgv hxv hyv
    clear hz0
    go_wp2
    go_ret
    exact ⟨by first | rfl | simp, dB⟩
  have hqz := hz0.out
  subst hqz
  clear hz0
  rcases inB_cases fa 0 1000 with hfa | hfa
  rotate_left
  · have HFa := Lib.hid (fun w => isFactor_is fa false w (Lib.hid hfa))
    have hgv : g = 2 := by rw [← hg.out]; exact ceilE_2 hq.out hfa
    have hxv : x = 0 := by rw [← hx.out, ceilX, if_neg (by rw [hg.out, hgv]; decide)]
    have hyv : y = 0 := by rw [← hy.out, ceilY, if_neg (by rw [hg.out, hgv]; decide)]
    subst hgv hxv hyv
    clear hfa
    go_wp2_with ((go_at_call 48; ((with_reducible refine (HFa.out _).mono ?_)); rintro e w' ⟨rfl, rfl⟩))
    go_ret
    exact ⟨by first | rfl | simp, dB⟩
  have HFa := Lib.hid (fun w => isFactor_is fa true w (Lib.hid hfa))
  have hgv : g = 0 := by rw [← hg.out]; exact ceilE_0 hq.out hfa
  have hfit := fit_of hq.out
  have HFit := Lib.hid hfit
  obtain ⟨fa0, fa1⟩ := inB_iff.1 hfa
  have HFF := Lib.hid hfa
  have hxv : x = (ceilR fa T L 0 0).1 := by rw [← hx.out, ceilX, if_pos (by rw [hg.out, hgv])]
  have hyv : y = (ceilR fa T L 0 0).2 := by rw [← hy.out, ceilY, if_pos (by rw [hg.out, hgv])]
  have HXY : Hid (ceilR fa T L 0 0 = (x, y)) := by show _ = _; rw [hxv, hyv]
  have hcb := ceilR_le fa fa0 fa1 T L 0 0 hfit.allC hfit.allL (by omega) (by omega)
  have hcm := ceilR_mono fa T L 0 0
  have xb : 0 ≤ x ∧ x ≤ 200001 := by rw [hxv]; exact ⟨hcm.1, hcb.1⟩
  have yb : 0 ≤ y ∧ y ≤ 200001 := by rw [hyv]; exact ⟨hcm.2, hcb.2⟩
  have HX1 : Hid (x = (ceilR fa T L 0 0).1) := hxv
  have HY1 : Hid (y = (ceilR fa T L 0 0).2) := hyv
  subst hgv
  clear hfa hxv hyv hcb hcm hfit
  obtain ⟨p1, hp1⟩ : ∃ z, Hid (inB y 400 31100 = z) := ⟨_, Lib.hid rfl⟩
  obtain ⟨p2, hp2⟩ : ∃ z, Hid (inB (x - 1) 400 31100 = z) := ⟨_, Lib.hid rfl⟩
  have HP1 := Lib.hid (fun w => isPressure_is y p1 w hp1)
  have HP2 := Lib.hid (fun w => isPressure_is (x - 1) p2 w hp2)
  have ex1 : IntKind.i64.wrap (x - 1) = x - 1 := IntWalk.i64_in _ (by omega)
  go_upto_region 11 with ((go_at_call 48; ((with_reducible refine (HFa.out _).mono ?_)); rintro e w' ⟨rfl, rfl⟩))
  have HS : ∀ w', Below w4.heap.size w4 w' → w'.cell? ⟨w.heap.size, 0, none⟩ = some (.slice A T.length cap) ∧ w'.cell? ⟨w.heap.size, 1, none⟩ = some (.slice B L.length cap') ∧ w'.cell? ⟨w.heap.size + 1, 0, none⟩ = some (.int .i64 fa) ∧ w'.cell? ⟨rb5, 0, none⟩ = some (.int .i64 x) ∧ w'.cell? ⟨rb5, 1, none⟩ = some (.int .i64 y) := fun w' hb => ⟨(hb.cell (p := ⟨w.heap.size, 0, none⟩) do0).trans d0, (hb.cell (p := ⟨w.heap.size, 1, none⟩) do0).trans d1, (hb.cell (p := ⟨w.heap.size + 1, 0, none⟩) do1).trans d8, (hb.cell (p := ⟨rb5, 0, none⟩) do2).trans d10, (hb.cell (p := ⟨rb5, 1, none⟩) do2).trans d11⟩
  have HS' := Lib.hid HS
  clear HS
  refine wp_region_held_drew (S := (fun w' => w'.cell? ⟨w.heap.size, 0, none⟩ = some (.slice A T.length cap) ∧ w'.cell? ⟨w.heap.size, 1, none⟩ = some (.slice B L.length cap') ∧ w'.cell? ⟨w.heap.size + 1, 0, none⟩ = some (.int .i64 fa) ∧ w'.cell? ⟨rb5, 0, none⟩ = some (.int .i64 x) ∧ w'.cell? ⟨rb5, 1, none⟩ = some (.int .i64 y))) (by kernel_rfl) (by exact HS'.out _ (Below.refl w4.heap.size w4).drew) (fun hHeld => ?_)
  refine wpAnyH_take (i := 0) (oi := ⟨some 54, _, _, _, _, _⟩) (v := ?_) rfl (by kernel_rfl) (by kernel_rfl) (by kernel_rfl) (fun _ _ _ h => h) (Or.inl ⟨by kernel_rfl, ?_⟩) (by assumption) ?_
  rotate_left
  · (intro w hSw; (try dsimp only at hSw); go_simp; all_goals with_reducible rfl)
  try simp only [Act.put, List.setIfInBounds_toArray, List.set_cons_zero, List.set_cons_succ]
  refine wpAnyH_take (i := 1) (oi := ⟨some 55, _, _, _, _, _⟩) (v := ?_) rfl (by kernel_rfl) (by kernel_rfl) (by kernel_rfl) (fun _ _ _ h => h) (Or.inl ⟨by kernel_rfl, ?_⟩) (by assumption) ?_
  rotate_left
  · (intro w hSw; (try dsimp only at hSw); go_simp; all_goals with_reducible rfl)
  try simp only [Act.put, List.setIfInBounds_toArray, List.set_cons_zero, List.set_cons_succ]
  refine wpAnyH_take (i := 2) (oi := ⟨some 56, _, _, _, _, _⟩) (v := ?_) rfl (by kernel_rfl) (by kernel_rfl) (by kernel_rfl) (fun _ _ _ h => h) (Or.inl ⟨by kernel_rfl, ?_⟩) (by assumption) ?_
  rotate_left
  · (intro w hSw; (try dsimp only at hSw); go_simp; all_goals with_reducible rfl)
  try simp only [Act.put, List.setIfInBounds_toArray, List.set_cons_zero, List.set_cons_succ]
  refine wpAnyH_take (i := 3) (oi := ⟨some 57, _, _, _, _, _⟩) (v := ?_) rfl (by kernel_rfl) (by kernel_rfl) (by kernel_rfl) (fun _ _ _ h => h) (Or.inl ⟨by kernel_rfl, ?_⟩) (by assumption) ?_
  rotate_left
  · (intro w hSw; (try dsimp only at hSw); go_simp; all_goals with_reducible rfl)
  try simp only [Act.put, List.setIfInBounds_toArray, List.set_cons_zero, List.set_cons_succ]
  refine wpAnyH_take (i := 4) (oi := ⟨some 58, _, _, _, _, _⟩) (v := ?_) rfl (by kernel_rfl) (by kernel_rfl) (by kernel_rfl) (fun _ _ _ h => h) (Or.inl ⟨by kernel_rfl, ?_⟩) (by assumption) ?_
  rotate_left
  · (intro w hSw; (try dsimp only at hSw); go_simp; all_goals with_reducible rfl)
  try simp only [Act.put, List.setIfInBounds_toArray, List.set_cons_zero, List.set_cons_succ]
  refine wpAnyH_take (i := 5) (oi := ⟨some 59, _, _, _, _, _⟩) (v := ?_) rfl (by kernel_rfl) (by kernel_rfl) (by kernel_rfl) (fun _ _ _ h => h) (Or.inl ⟨by kernel_rfl, ?_⟩) (by assumption) ?_
  rotate_left
  · (intro w hSw; (try dsimp only at hSw); go_simp; all_goals with_reducible rfl)
  try simp only [Act.put, List.setIfInBounds_toArray, List.set_cons_zero, List.set_cons_succ]
  refine wpAnyH_take (i := 6) (oi := ⟨some 60, _, _, _, _, _⟩) (v := ?_) rfl (by kernel_rfl) (by kernel_rfl) (by kernel_rfl) (fun _ _ _ h => h) (Or.inl ⟨by kernel_rfl, ?_⟩) (by assumption) ?_
  rotate_left
  · (intro w hSw; (try dsimp only at hSw); go_simp; all_goals with_reducible rfl)
  try simp only [Act.put, List.setIfInBounds_toArray, List.set_cons_zero, List.set_cons_succ]
  refine wpAnyH_take (i := 7) (oi := ⟨some 61, _, _, _, _, _⟩) (v := ?_) rfl (by kernel_rfl) (by kernel_rfl) (by kernel_rfl) (fun _ _ _ h => h) (Or.inl ⟨by kernel_rfl, ?_⟩) (by assumption) ?_
  rotate_left
  · (intro w hSw; (try dsimp only at hSw); go_simp; all_goals with_reducible rfl)
  try simp only [Act.put, List.setIfInBounds_toArray, List.set_cons_zero, List.set_cons_succ]
  refine wpAnyH_take (i := 8) (oi := ⟨some 62, _, _, _, _, _⟩) (v := ?_) rfl (by kernel_rfl) (by kernel_rfl) (by kernel_rfl) (fun _ _ _ h => h) (Or.inl ⟨by kernel_rfl, ?_⟩) (by assumption) ?_
  rotate_left
  · (intro w hSw; (try dsimp only at hSw); go_simp; all_goals with_reducible rfl)
  try simp only [Act.put, List.setIfInBounds_toArray, List.set_cons_zero, List.set_cons_succ]
  refine wpAnyH_take (i := 9) (oi := ⟨some 63, _, _, _, _, _⟩) (v := ?_) rfl (by kernel_rfl) (by kernel_rfl) (by kernel_rfl) (fun _ _ _ h => h) (Or.inl ⟨by kernel_rfl, ?_⟩) (by assumption) ?_
  rotate_left
  · (intro w hSw; (try dsimp only at hSw); go_simp; all_goals with_reducible rfl)
  try simp only [Act.put, List.setIfInBounds_toArray, List.set_cons_zero, List.set_cons_succ]
  refine wpAnyH_ready (rs := [10]) (by kernel_rfl) (by simp) ?_
  refine AllReadyH.cons rfl (fun K hK => ?_) AllReadyH.nil
  go_simp
  refine (refCeiling_is T L A B cap cap' fa x y _ HFit fa0 fa1 HXY (Lib.hid (HT.out.below (dB.trans (((Below.refl w4.heap.size w4).drew).mono dB.size)))) (Lib.hid (HL.out.below (dB.trans (((Below.refl w4.heap.size w4).drew).mono dB.size))))).mono ?_
  rintro e w5 ⟨rfl, hb5⟩
  have hB5 : Below w4.heap.size w4 w5 := ((Below.refl w4.heap.size w4).drew).trans (hb5.mono ((Below.refl w4.heap.size w4).drew).size)
  go_wp2_with fail
  refine hK.out _ _ (by exact HS'.out _ hB5) (fun hHeld => ?_)
  clear hK K
  try simp only [Act.put, List.setIfInBounds_toArray, List.set_cons_zero, List.set_cons_succ]
  refine wpAnyH_take (i := 11) (oi := ⟨some 65, _, _, _, _, _⟩) (v := ?_) rfl (by kernel_rfl) (by kernel_rfl) (by kernel_rfl) (fun _ _ _ h => h) (Or.inl ⟨by kernel_rfl, ?_⟩) (by assumption) ?_
  rotate_left
  · (intro w hSw; (try dsimp only at hSw); go_simp; all_goals with_reducible rfl)
  try simp only [Act.put, List.setIfInBounds_toArray, List.set_cons_zero, List.set_cons_succ]
  refine wpAnyH_take (i := 12) (oi := ⟨some 66, _, _, _, _, _⟩) (v := ?_) rfl (by kernel_rfl) (by kernel_rfl) (by kernel_rfl) (fun _ _ _ h => h) (Or.inl ⟨by kernel_rfl, ?_⟩) (by assumption) ?_
  rotate_left
  · (intro w hSw; (try dsimp only at hSw); go_simp; all_goals with_reducible rfl)
  try simp only [Act.put, List.setIfInBounds_toArray, List.set_cons_zero, List.set_cons_succ]
  refine wpAnyH_done (by kernel_rfl) ?_ _
  clear hb5 HS' hHeld
  have ze := hB5.size
  have e0 := (hB5.cell (p := ⟨w.heap.size, 0, none⟩) do0).trans d0
  have e1 := (hB5.cell (p := ⟨w.heap.size, 1, none⟩) do0).trans d1
  have e2 := (hB5.cell (p := ⟨w.heap.size, 2, none⟩) do0).trans d2
  have e3 := (hB5.cell (p := ⟨w.heap.size, 3, none⟩) do0).trans d3
  have e4 := (hB5.cell (p := ⟨w.heap.size, 4, none⟩) do0).trans d4
  have e5 := (hB5.cell (p := ⟨w.heap.size, 5, none⟩) do0).trans d5
  have e6 := (hB5.cell (p := ⟨w.heap.size, 6, none⟩) do0).trans d6
  have e7 := (hB5.cell (p := ⟨w.heap.size, 7, none⟩) do0).trans d7
  have e8 := (hB5.cell (p := ⟨w.heap.size + 1, 0, none⟩) do1).trans d8
  have e9 := (hB5.cell (p := ⟨w.heap.size + 1, 1, none⟩) do1).trans d9
  have e10 := (hB5.cell (p := ⟨rb5, 0, none⟩) do2).trans d10
  have e11 := (hB5.cell (p := ⟨rb5, 1, none⟩) do2).trans d11
  have eB : Below w.heap.size w w5 := dB.trans (hB5.mono dB.size)
  have eo0 : w.heap.size < w5.heap.size := by omega
  have en0 : w5.heap.size ≠ w.heap.size := by omega
  have eo1 : w.heap.size + 1 < w5.heap.size := by omega
  have en1 : w5.heap.size ≠ w.heap.size + 1 := by omega
  have eo2 : rb5 < w5.heap.size := by omega
  have en2 : w5.heap.size ≠ rb5 := by omega
  clear hB5 d0 d1 d2 d3 d4 d5 d6 d7 d8 d9 d10 d11 dB do0 dn0 do1 dn1 do2 dn2
  go_upto_if 69 with ((go_at_call 29; ((with_reducible refine (HP1.out _).mono ?_)); rintro e w' ⟨rfl, rfl⟩))
  go_cut [8, 9] from 14 (fun s8 s9 wx => Below w5.heap.size w5 wx)
  case first =>
    cases p1 with
    | false =>
      go_wp2_with fail
      go_meet
      exact Below.refl _ _
    | true =>
      obtain ⟨y4, y5⟩ := inB_iff.1 hp1.out
      have hk2 : Hid (keptE T L y fa = 0) := keptE_0 hq.out hp1.out HFF.out
      have hk1 : Hid (keptV T L y fa = 2) := by
        show _ = _
        rw [keptV, if_pos hk2.out]
        exact kept_above fa0 fa1 (by omega) T L 0 0 2 HFit.out.allC HFit.out.allL (by rw [← HY1.out]; exact Int.le_refl _)
      clear y4 y5
      go_upto_region 14 with (fail)
      have HS : ∀ w', Below w5.heap.size w5 w' → w'.cell? ⟨w.heap.size, 0, none⟩ = some (.slice A T.length cap) ∧ w'.cell? ⟨w.heap.size, 1, none⟩ = some (.slice B L.length cap') ∧ w'.cell? ⟨w.heap.size + 1, 0, none⟩ = some (.int .i64 fa) ∧ w'.cell? ⟨rb5, 1, none⟩ = some (.int .i64 y) := fun w' hb => ⟨(hb.cell (p := ⟨w.heap.size, 0, none⟩) eo0).trans e0, (hb.cell (p := ⟨w.heap.size, 1, none⟩) eo0).trans e1, (hb.cell (p := ⟨w.heap.size + 1, 0, none⟩) eo1).trans e8, (hb.cell (p := ⟨rb5, 1, none⟩) eo2).trans e11⟩
      have HS' := Lib.hid HS
      clear HS
      refine wp_region_held_drew (S := (fun w' => w'.cell? ⟨w.heap.size, 0, none⟩ = some (.slice A T.length cap) ∧ w'.cell? ⟨w.heap.size, 1, none⟩ = some (.slice B L.length cap') ∧ w'.cell? ⟨w.heap.size + 1, 0, none⟩ = some (.int .i64 fa) ∧ w'.cell? ⟨rb5, 1, none⟩ = some (.int .i64 y))) (by kernel_rfl) (by exact HS'.out _ (Below.refl w5.heap.size w5).drew) (fun hHeld => ?_)
      refine wpAnyH_take (i := 0) (oi := ⟨some 71, _, _, _, _, _⟩) (v := ?_) rfl (by kernel_rfl) (by kernel_rfl) (by kernel_rfl) (fun _ _ _ h => h) (Or.inl ⟨by kernel_rfl, ?_⟩) (by assumption) ?_
      rotate_left
      · (intro w hSw; (try dsimp only at hSw); go_simp; all_goals with_reducible rfl)
      try simp only [Act.put, List.setIfInBounds_toArray, List.set_cons_zero, List.set_cons_succ]
      refine wpAnyH_take (i := 1) (oi := ⟨some 72, _, _, _, _, _⟩) (v := ?_) rfl (by kernel_rfl) (by kernel_rfl) (by kernel_rfl) (fun _ _ _ h => h) (Or.inl ⟨by kernel_rfl, ?_⟩) (by assumption) ?_
      rotate_left
      · (intro w hSw; (try dsimp only at hSw); go_simp; all_goals with_reducible rfl)
      try simp only [Act.put, List.setIfInBounds_toArray, List.set_cons_zero, List.set_cons_succ]
      refine wpAnyH_take (i := 3) (oi := ⟨some 74, _, _, _, _, _⟩) (v := ?_) rfl (by kernel_rfl) (by kernel_rfl) (by kernel_rfl) (fun _ _ _ h => h) (Or.inl ⟨by kernel_rfl, ?_⟩) (by assumption) ?_
      rotate_left
      · (intro w hSw; (try dsimp only at hSw); go_simp; all_goals with_reducible rfl)
      try simp only [Act.put, List.setIfInBounds_toArray, List.set_cons_zero, List.set_cons_succ]
      refine wpAnyH_take (i := 4) (oi := ⟨some 75, _, _, _, _, _⟩) (v := ?_) rfl (by kernel_rfl) (by kernel_rfl) (by kernel_rfl) (fun _ _ _ h => h) (Or.inl ⟨by kernel_rfl, ?_⟩) (by assumption) ?_
      rotate_left
      · (intro w hSw; (try dsimp only at hSw); go_simp; all_goals with_reducible rfl)
      try simp only [Act.put, List.setIfInBounds_toArray, List.set_cons_zero, List.set_cons_succ]
      refine wpAnyH_take (i := 6) (oi := ⟨some 77, _, _, _, _, _⟩) (v := ?_) rfl (by kernel_rfl) (by kernel_rfl) (by kernel_rfl) (fun _ _ _ h => h) (Or.inl ⟨by kernel_rfl, ?_⟩) (by assumption) ?_
      rotate_left
      · (intro w hSw; (try dsimp only at hSw); go_simp; all_goals with_reducible rfl)
      try simp only [Act.put, List.setIfInBounds_toArray, List.set_cons_zero, List.set_cons_succ]
      refine wpAnyH_take (i := 7) (oi := ⟨some 78, _, _, _, _, _⟩) (v := ?_) rfl (by kernel_rfl) (by kernel_rfl) (by kernel_rfl) (fun _ _ _ h => h) (Or.inl ⟨by kernel_rfl, ?_⟩) (by assumption) ?_
      rotate_left
      · (intro w hSw; (try dsimp only at hSw); go_simp; all_goals with_reducible rfl)
      try simp only [Act.put, List.setIfInBounds_toArray, List.set_cons_zero, List.set_cons_succ]
      refine wpAnyH_take (i := 8) (oi := ⟨some 79, _, _, _, _, _⟩) (v := ?_) rfl (by kernel_rfl) (by kernel_rfl) (by kernel_rfl) (fun _ _ _ h => h) (Or.inl ⟨by kernel_rfl, ?_⟩) (by assumption) ?_
      rotate_left
      · (intro w hSw; (try dsimp only at hSw); go_simp; all_goals with_reducible rfl)
      try simp only [Act.put, List.setIfInBounds_toArray, List.set_cons_zero, List.set_cons_succ]
      refine wpAnyH_take (i := 9) (oi := ⟨some 80, _, _, _, _, _⟩) (v := ?_) rfl (by kernel_rfl) (by kernel_rfl) (by kernel_rfl) (fun _ _ _ h => h) (Or.inl ⟨by kernel_rfl, ?_⟩) (by assumption) ?_
      rotate_left
      · (intro w hSw; (try dsimp only at hSw); go_simp; all_goals with_reducible rfl)
      try simp only [Act.put, List.setIfInBounds_toArray, List.set_cons_zero, List.set_cons_succ]
      refine wpAnyH_take (i := 10) (oi := ⟨some 81, _, _, _, _, _⟩) (v := ?_) rfl (by kernel_rfl) (by kernel_rfl) (by kernel_rfl) (fun _ _ _ h => h) (Or.inl ⟨by kernel_rfl, ?_⟩) (by assumption) ?_
      rotate_left
      · (intro w hSw; (try dsimp only at hSw); go_simp; all_goals with_reducible rfl)
      try simp only [Act.put, List.setIfInBounds_toArray, List.set_cons_zero, List.set_cons_succ]
      have hB0 : Below w5.heap.size w5 w5.drew := (Below.refl w5.heap.size w5).drew
      generalize hdr : w5.drew = u0 at *
      clear hdr
      refine wpAnyH_ready (rs := [2]) (by kernel_rfl) (by simp) ?_
      refine AllReadyH.cons rfl (fun K hK => ?_) (AllReadyH.nil)
      go_simp
      refine (lawTable_any T A cap _ (by omega) HNA.out (HT.out.below (eB.trans ((hB0).mono eB.size)))).mono ?_
      rintro e u1 ⟨A2, cap2, rfl, hS, _, hb1⟩
      have HT_1 := Lib.hid hS
      clear hS
      have hB1 : Below w5.heap.size w5 u1 := (hB0).trans (hb1.mono (hB0).size)
      go_wp2_with fail
      refine hK.out _ _ (HS'.out _ (hB1)) (fun hHeld => ?_)
      clear hK K
      try simp only [Act.put, List.setIfInBounds_toArray, List.set_cons_zero, List.set_cons_succ]
      refine wpAnyH_ready (rs := [5]) (by kernel_rfl) (by simp) ?_
      refine AllReadyH.cons rfl (fun K hK => ?_) (AllReadyH.nil)
      go_simp
      refine (lawLoads_any L B cap' _ (by omega) HNB.out (HL.out.below (eB.trans ((hB1).mono eB.size)))).mono ?_
      rintro e u2 ⟨A3, cap3, rfl, hS, _, hb2⟩
      have HL_2 := Lib.hid hS
      clear hS
      have hB2 : Below w5.heap.size w5 u2 := (hB1).trans (hb2.mono (hB1).size)
      have HT_2 := Lib.hid (HT_1.out.below hb2)
      go_wp2_with fail
      refine hK.out _ _ (HS'.out _ (hB2)) (fun hHeld => ?_)
      clear hK K
      try simp only [Act.put, List.setIfInBounds_toArray, List.set_cons_zero, List.set_cons_succ]
      refine wpAnyH_ready (rs := [11]) (by kernel_rfl) (by simp) ?_
      refine AllReadyH.cons rfl (fun K hK => ?_) (AllReadyH.nil)
      go_simp
      refine (KeptAt_x T L A2 A3 cap2 cap3 y fa 2 0 _ (by omega) (by omega) hk1 hk2 (Lib.hid HT_2.out) (Lib.hid HL_2.out)).mono ?_
      rintro e u3 ⟨rfl, hb3⟩
      have hB3 : Below w5.heap.size w5 u3 := (hB2).trans (hb3.mono (hB2).size)
      have HT_3 := Lib.hid (HT_2.out.below hb3)
      have HL_3 := Lib.hid (HL_2.out.below hb3)
      go_wp2_with fail
      refine hK.out _ _ (HS'.out _ (hB3)) (fun hHeld => ?_)
      clear hK K
      try simp only [Act.put, List.setIfInBounds_toArray, List.set_cons_zero, List.set_cons_succ]
      refine wpAnyH_take (i := 12) (oi := ⟨some 70, _, _, _, _, _⟩) (v := ?_) rfl (by kernel_rfl) (by kernel_rfl) (by kernel_rfl) (fun _ _ _ h => h) (Or.inl ⟨by kernel_rfl, ?_⟩) (by assumption) ?_
      rotate_left
      · (intro w hSw; (try dsimp only at hSw); go_simp; all_goals with_reducible rfl)
      try simp only [Act.put, List.setIfInBounds_toArray, List.set_cons_zero, List.set_cons_succ]
      refine wpAnyH_take (i := 13) (oi := ⟨some 83, _, _, _, _, _⟩) (v := ?_) rfl (by kernel_rfl) (by kernel_rfl) (by kernel_rfl) (fun _ _ _ h => h) (Or.inl ⟨by kernel_rfl, ?_⟩) (by assumption) ?_
      rotate_left
      · (intro w hSw; (try dsimp only at hSw); go_simp; all_goals with_reducible rfl)
      try simp only [Act.put, List.setIfInBounds_toArray, List.set_cons_zero, List.set_cons_succ]
      refine wpAnyH_take (i := 14) (oi := ⟨some 84, _, _, _, _, _⟩) (v := ?_) rfl (by kernel_rfl) (by kernel_rfl) (by kernel_rfl) (fun _ _ _ h => h) (Or.inl ⟨by kernel_rfl, ?_⟩) (by assumption) ?_
      rotate_left
      · (intro w hSw; (try dsimp only at hSw); go_simp; all_goals with_reducible rfl)
      try simp only [Act.put, List.setIfInBounds_toArray, List.set_cons_zero, List.set_cons_succ]
      refine wpAnyH_take (i := 15) (oi := ⟨some 8, _, _, _, _, _⟩) (v := ?_) rfl (by kernel_rfl) (by kernel_rfl) (by kernel_rfl) (fun _ _ _ h => h) (Or.inl ⟨by kernel_rfl, ?_⟩) (by assumption) ?_
      rotate_left
      · (intro w hSw; (try dsimp only at hSw); go_simp; all_goals with_reducible rfl)
      try simp only [Act.put, List.setIfInBounds_toArray, List.set_cons_zero, List.set_cons_succ]
      refine wpAnyH_take (i := 16) (oi := ⟨some 9, _, _, _, _, _⟩) (v := ?_) rfl (by kernel_rfl) (by kernel_rfl) (by kernel_rfl) (fun _ _ _ h => h) (Or.inl ⟨by kernel_rfl, ?_⟩) (by assumption) ?_
      rotate_left
      · (intro w hSw; (try dsimp only at hSw); go_simp; all_goals with_reducible rfl)
      try simp only [Act.put, List.setIfInBounds_toArray, List.set_cons_zero, List.set_cons_succ]
      refine wpAnyH_done (by kernel_rfl) ?_ _
      go_wp2_with fail
      go_meet
      exact hB3
  case rest =>
  obtain ⟨w6, hwq⟩ : ∃ V, V = wc := ⟨_, rfl⟩
  rw [← hwq] at hcut
  rw [← hwq]
  clear hwq
  have hbq := hcut
  clear hcut
  have zf := hbq.size
  have f0 := (hbq.cell (p := ⟨w.heap.size, 0, none⟩) eo0).trans e0
  have f1 := (hbq.cell (p := ⟨w.heap.size, 1, none⟩) eo0).trans e1
  have f2 := (hbq.cell (p := ⟨w.heap.size, 2, none⟩) eo0).trans e2
  have f3 := (hbq.cell (p := ⟨w.heap.size, 3, none⟩) eo0).trans e3
  have f4 := (hbq.cell (p := ⟨w.heap.size, 4, none⟩) eo0).trans e4
  have f5 := (hbq.cell (p := ⟨w.heap.size, 5, none⟩) eo0).trans e5
  have f6 := (hbq.cell (p := ⟨w.heap.size, 6, none⟩) eo0).trans e6
  have f7 := (hbq.cell (p := ⟨w.heap.size, 7, none⟩) eo0).trans e7
  have f8 := (hbq.cell (p := ⟨w.heap.size + 1, 0, none⟩) eo1).trans e8
  have f9 := (hbq.cell (p := ⟨w.heap.size + 1, 1, none⟩) eo1).trans e9
  have f10 := (hbq.cell (p := ⟨rb5, 0, none⟩) eo2).trans e10
  have f11 := (hbq.cell (p := ⟨rb5, 1, none⟩) eo2).trans e11
  have fB : Below w.heap.size w w6 := eB.trans (hbq.mono eB.size)
  have fo0 : w.heap.size < w6.heap.size := by omega
  have fn0 : w6.heap.size ≠ w.heap.size := by omega
  have fo1 : w.heap.size + 1 < w6.heap.size := by omega
  have fn1 : w6.heap.size ≠ w.heap.size + 1 := by omega
  have fo2 : rb5 < w6.heap.size := by omega
  have fn2 : w6.heap.size ≠ rb5 := by omega
  clear hbq e0 e1 e2 e3 e4 e5 e6 e7 e8 e9 e10 e11 eB eo0 en0 eo1 en1 eo2 en2
  go_upto_if 94 with ((go_at_call 29; ((with_reducible refine (HP2.out _).mono ?_)); rintro e w' ⟨rfl, rfl⟩))
  go_cut [10, 11] from 14 (fun s10 s11 wx => Below w6.heap.size w6 wx)
  case first =>
    cases p2 with
    | false =>
      go_wp2_with fail
      go_meet
      exact Below.refl _ _
    | true =>
      obtain ⟨y4, y5⟩ := inB_iff.1 hp2.out
      have hk2 : Hid (keptE T L (x - 1) fa = 0) := keptE_0 hq.out hp2.out HFF.out
      have hk1 : Hid (keptV T L (x - 1) fa = 0) := by
        show _ = _
        rw [keptV, if_pos hk2.out, HX1.out]
        exact kept_below fa0 fa1 T L 0 0 2 HFit.out.allC HFit.out.allL (by rw [← HX1.out]; omega) (by rw [← HX1.out]; omega)
      clear y4 y5
      go_upto_region 18 with (fail)
      have HS : ∀ w', Below w6.heap.size w6 w' → w'.cell? ⟨w.heap.size, 0, none⟩ = some (.slice A T.length cap) ∧ w'.cell? ⟨w.heap.size, 1, none⟩ = some (.slice B L.length cap') ∧ w'.cell? ⟨w.heap.size + 1, 0, none⟩ = some (.int .i64 fa) ∧ w'.cell? ⟨rb5, 0, none⟩ = some (.int .i64 x) := fun w' hb => ⟨(hb.cell (p := ⟨w.heap.size, 0, none⟩) fo0).trans f0, (hb.cell (p := ⟨w.heap.size, 1, none⟩) fo0).trans f1, (hb.cell (p := ⟨w.heap.size + 1, 0, none⟩) fo1).trans f8, (hb.cell (p := ⟨rb5, 0, none⟩) fo2).trans f10⟩
      have HS' := Lib.hid HS
      clear HS
      refine wp_region_held_drew (S := (fun w' => w'.cell? ⟨w.heap.size, 0, none⟩ = some (.slice A T.length cap) ∧ w'.cell? ⟨w.heap.size, 1, none⟩ = some (.slice B L.length cap') ∧ w'.cell? ⟨w.heap.size + 1, 0, none⟩ = some (.int .i64 fa) ∧ w'.cell? ⟨rb5, 0, none⟩ = some (.int .i64 x))) (by kernel_rfl) (by exact HS'.out _ (Below.refl w6.heap.size w6).drew) (fun hHeld => ?_)
      refine wpAnyH_take (i := 0) (oi := ⟨some 96, _, _, _, _, _⟩) (v := ?_) rfl (by kernel_rfl) (by kernel_rfl) (by kernel_rfl) (fun _ _ _ h => h) (Or.inl ⟨by kernel_rfl, ?_⟩) (by assumption) ?_
      rotate_left
      · (intro w hSw; (try dsimp only at hSw); go_simp; all_goals with_reducible rfl)
      try simp only [Act.put, List.setIfInBounds_toArray, List.set_cons_zero, List.set_cons_succ]
      refine wpAnyH_take (i := 1) (oi := ⟨some 97, _, _, _, _, _⟩) (v := ?_) rfl (by kernel_rfl) (by kernel_rfl) (by kernel_rfl) (fun _ _ _ h => h) (Or.inl ⟨by kernel_rfl, ?_⟩) (by assumption) ?_
      rotate_left
      · (intro w hSw; (try dsimp only at hSw); go_simp; all_goals with_reducible rfl)
      try simp only [Act.put, List.setIfInBounds_toArray, List.set_cons_zero, List.set_cons_succ]
      refine wpAnyH_take (i := 3) (oi := ⟨some 99, _, _, _, _, _⟩) (v := ?_) rfl (by kernel_rfl) (by kernel_rfl) (by kernel_rfl) (fun _ _ _ h => h) (Or.inl ⟨by kernel_rfl, ?_⟩) (by assumption) ?_
      rotate_left
      · (intro w hSw; (try dsimp only at hSw); go_simp; all_goals with_reducible rfl)
      try simp only [Act.put, List.setIfInBounds_toArray, List.set_cons_zero, List.set_cons_succ]
      refine wpAnyH_take (i := 4) (oi := ⟨some 100, _, _, _, _, _⟩) (v := ?_) rfl (by kernel_rfl) (by kernel_rfl) (by kernel_rfl) (fun _ _ _ h => h) (Or.inl ⟨by kernel_rfl, ?_⟩) (by assumption) ?_
      rotate_left
      · (intro w hSw; (try dsimp only at hSw); go_simp; all_goals with_reducible rfl)
      try simp only [Act.put, List.setIfInBounds_toArray, List.set_cons_zero, List.set_cons_succ]
      refine wpAnyH_take (i := 6) (oi := ⟨some 102, _, _, _, _, _⟩) (v := ?_) rfl (by kernel_rfl) (by kernel_rfl) (by kernel_rfl) (fun _ _ _ h => h) (Or.inl ⟨by kernel_rfl, ?_⟩) (by assumption) ?_
      rotate_left
      · (intro w hSw; (try dsimp only at hSw); go_simp; all_goals with_reducible rfl)
      try simp only [Act.put, List.setIfInBounds_toArray, List.set_cons_zero, List.set_cons_succ]
      refine wpAnyH_take (i := 7) (oi := ⟨some 103, _, _, _, _, _⟩) (v := ?_) rfl (by kernel_rfl) (by kernel_rfl) (by kernel_rfl) (fun _ _ _ h => h) (Or.inl ⟨by kernel_rfl, ?_⟩) (by assumption) ?_
      rotate_left
      · (intro w hSw; (try dsimp only at hSw); go_simp; all_goals with_reducible rfl)
      try simp only [Act.put, List.setIfInBounds_toArray, List.set_cons_zero, List.set_cons_succ]
      refine wpAnyH_take (i := 8) (oi := ⟨some 104, _, _, _, _, _⟩) (v := ?_) rfl (by kernel_rfl) (by kernel_rfl) (by kernel_rfl) (fun _ _ _ h => h) (Or.inl ⟨by kernel_rfl, ?_⟩) (by assumption) ?_
      rotate_left
      · (intro w hSw; (try dsimp only at hSw); go_simp; all_goals with_reducible rfl)
      try simp only [Act.put, List.setIfInBounds_toArray, List.set_cons_zero, List.set_cons_succ]
      refine wpAnyH_take (i := 9) (oi := ⟨some 105, _, _, _, _, _⟩) (v := ?_) rfl (by kernel_rfl) (by kernel_rfl) (by kernel_rfl) (fun _ _ _ h => h) (Or.inl ⟨by kernel_rfl, ?_⟩) (by assumption) ?_
      rotate_left
      · (intro w hSw; (try dsimp only at hSw); go_simp; all_goals with_reducible rfl)
      try simp only [Act.put, List.setIfInBounds_toArray, List.set_cons_zero, List.set_cons_succ]
      refine wpAnyH_take (i := 10) (oi := ⟨some 106, _, _, _, _, _⟩) (v := ?_) rfl (by kernel_rfl) (by kernel_rfl) (by kernel_rfl) (fun _ _ _ h => h) (Or.inl ⟨by kernel_rfl, ?_⟩) (by assumption) ?_
      rotate_left
      · (intro w hSw; (try dsimp only at hSw); go_simp; all_goals with_reducible rfl)
      try simp only [Act.put, List.setIfInBounds_toArray, List.set_cons_zero, List.set_cons_succ]
      refine wpAnyH_take (i := 11) (oi := ⟨some 107, _, _, _, _, _⟩) (v := ?_) rfl (by kernel_rfl) (by kernel_rfl) (by kernel_rfl) (fun _ _ _ h => h) (Or.inl ⟨by kernel_rfl, ?_⟩) (by assumption) ?_
      rotate_left
      · (intro w hSw; (try dsimp only at hSw); go_simp; all_goals with_reducible rfl)
      try simp only [Act.put, List.setIfInBounds_toArray, List.set_cons_zero, List.set_cons_succ]
      have hB0 : Below w6.heap.size w6 w6.drew := (Below.refl w6.heap.size w6).drew
      generalize hdr : w6.drew = u0 at *
      clear hdr
      refine wpAnyH_ready (rs := [2]) (by kernel_rfl) (by simp) ?_
      refine AllReadyH.cons rfl (fun K hK => ?_) (AllReadyH.nil)
      go_simp
      refine (lawTable_any T A cap _ (by omega) HNA.out (HT.out.below (fB.trans ((hB0).mono fB.size)))).mono ?_
      rintro e u1 ⟨A2, cap2, rfl, hS, _, hb1⟩
      have HT_1 := Lib.hid hS
      clear hS
      have hB1 : Below w6.heap.size w6 u1 := (hB0).trans (hb1.mono (hB0).size)
      go_wp2_with fail
      refine hK.out _ _ (HS'.out _ (hB1)) (fun hHeld => ?_)
      clear hK K
      try simp only [Act.put, List.setIfInBounds_toArray, List.set_cons_zero, List.set_cons_succ]
      refine wpAnyH_ready (rs := [5]) (by kernel_rfl) (by simp) ?_
      refine AllReadyH.cons rfl (fun K hK => ?_) (AllReadyH.nil)
      go_simp
      refine (lawLoads_any L B cap' _ (by omega) HNB.out (HL.out.below (fB.trans ((hB1).mono fB.size)))).mono ?_
      rintro e u2 ⟨A3, cap3, rfl, hS, _, hb2⟩
      have HL_2 := Lib.hid hS
      clear hS
      have hB2 : Below w6.heap.size w6 u2 := (hB1).trans (hb2.mono (hB1).size)
      have HT_2 := Lib.hid (HT_1.out.below hb2)
      go_wp2_with fail
      refine hK.out _ _ (HS'.out _ (hB2)) (fun hHeld => ?_)
      clear hK K
      try simp only [Act.put, List.setIfInBounds_toArray, List.set_cons_zero, List.set_cons_succ]
      refine wpAnyH_ready (rs := [12]) (by kernel_rfl) (by simp) ?_
      refine AllReadyH.cons rfl (fun K hK => ?_) (AllReadyH.nil)
      go_simp
      refine (KeptAt_x T L A2 A3 cap2 cap3 (x - 1) fa 0 0 _ (by omega) (by omega) hk1 hk2 (Lib.hid HT_2.out) (Lib.hid HL_2.out)).mono ?_
      rintro e u3 ⟨rfl, hb3⟩
      have hB3 : Below w6.heap.size w6 u3 := (hB2).trans (hb3.mono (hB2).size)
      have HT_3 := Lib.hid (HT_2.out.below hb3)
      have HL_3 := Lib.hid (HL_2.out.below hb3)
      go_wp2_with fail
      refine hK.out _ _ (HS'.out _ (hB3)) (fun hHeld => ?_)
      clear hK K
      try simp only [Act.put, List.setIfInBounds_toArray, List.set_cons_zero, List.set_cons_succ]
      refine wpAnyH_take (i := 13) (oi := ⟨some 95, _, _, _, _, _⟩) (v := ?_) rfl (by kernel_rfl) (by kernel_rfl) (by kernel_rfl) (fun _ _ _ h => h) (Or.inl ⟨by kernel_rfl, ?_⟩) (by assumption) ?_
      rotate_left
      · (intro w hSw; (try dsimp only at hSw); go_simp; all_goals with_reducible rfl)
      try simp only [Act.put, List.setIfInBounds_toArray, List.set_cons_zero, List.set_cons_succ]
      refine wpAnyH_take (i := 14) (oi := ⟨some 109, _, _, _, _, _⟩) (v := ?_) rfl (by kernel_rfl) (by kernel_rfl) (by kernel_rfl) (fun _ _ _ h => h) (Or.inl ⟨by kernel_rfl, ?_⟩) (by assumption) ?_
      rotate_left
      · (intro w hSw; (try dsimp only at hSw); go_simp; all_goals with_reducible rfl)
      try simp only [Act.put, List.setIfInBounds_toArray, List.set_cons_zero, List.set_cons_succ]
      refine wpAnyH_take (i := 15) (oi := ⟨some 110, _, _, _, _, _⟩) (v := ?_) rfl (by kernel_rfl) (by kernel_rfl) (by kernel_rfl) (fun _ _ _ h => h) (Or.inl ⟨by kernel_rfl, ?_⟩) (by assumption) ?_
      rotate_left
      · (intro w hSw; (try dsimp only at hSw); go_simp; all_goals with_reducible rfl)
      try simp only [Act.put, List.setIfInBounds_toArray, List.set_cons_zero, List.set_cons_succ]
      refine wpAnyH_take (i := 16) (oi := ⟨some 10, _, _, _, _, _⟩) (v := ?_) rfl (by kernel_rfl) (by kernel_rfl) (by kernel_rfl) (fun _ _ _ h => h) (Or.inl ⟨by kernel_rfl, ?_⟩) (by assumption) ?_
      rotate_left
      · (intro w hSw; (try dsimp only at hSw); go_simp; all_goals with_reducible rfl)
      try simp only [Act.put, List.setIfInBounds_toArray, List.set_cons_zero, List.set_cons_succ]
      refine wpAnyH_take (i := 17) (oi := ⟨some 11, _, _, _, _, _⟩) (v := ?_) rfl (by kernel_rfl) (by kernel_rfl) (by kernel_rfl) (fun _ _ _ h => h) (Or.inl ⟨by kernel_rfl, ?_⟩) (by assumption) ?_
      rotate_left
      · (intro w hSw; (try dsimp only at hSw); go_simp; all_goals with_reducible rfl)
      try simp only [Act.put, List.setIfInBounds_toArray, List.set_cons_zero, List.set_cons_succ]
      refine wpAnyH_done (by kernel_rfl) ?_ _
      go_wp2_with fail
      go_meet
      exact hB3
  case rest =>
  obtain ⟨w7, hwq⟩ : ∃ V, V = wc := ⟨_, rfl⟩
  rw [← hwq] at hcut
  rw [← hwq]
  clear hwq
  have hbq := hcut
  clear hcut
  have zi := hbq.size
  have i0 := (hbq.cell (p := ⟨w.heap.size, 0, none⟩) fo0).trans f0
  have i1 := (hbq.cell (p := ⟨w.heap.size, 1, none⟩) fo0).trans f1
  have i2 := (hbq.cell (p := ⟨w.heap.size, 2, none⟩) fo0).trans f2
  have i3 := (hbq.cell (p := ⟨w.heap.size, 3, none⟩) fo0).trans f3
  have i4 := (hbq.cell (p := ⟨w.heap.size, 4, none⟩) fo0).trans f4
  have i5 := (hbq.cell (p := ⟨w.heap.size, 5, none⟩) fo0).trans f5
  have i6 := (hbq.cell (p := ⟨w.heap.size, 6, none⟩) fo0).trans f6
  have i7 := (hbq.cell (p := ⟨w.heap.size, 7, none⟩) fo0).trans f7
  have i8 := (hbq.cell (p := ⟨w.heap.size + 1, 0, none⟩) fo1).trans f8
  have i9 := (hbq.cell (p := ⟨w.heap.size + 1, 1, none⟩) fo1).trans f9
  have i10 := (hbq.cell (p := ⟨rb5, 0, none⟩) fo2).trans f10
  have i11 := (hbq.cell (p := ⟨rb5, 1, none⟩) fo2).trans f11
  have iB : Below w.heap.size w w7 := fB.trans (hbq.mono fB.size)
  have io0 : w.heap.size < w7.heap.size := by omega
  have in0 : w7.heap.size ≠ w.heap.size := by omega
  have io1 : w.heap.size + 1 < w7.heap.size := by omega
  have in1 : w7.heap.size ≠ w.heap.size + 1 := by omega
  have io2 : rb5 < w7.heap.size := by omega
  have in2 : w7.heap.size ≠ rb5 := by omega
  clear hbq f0 f1 f2 f3 f4 f5 f6 f7 f8 f9 f10 f11 fB fo0 fn0 fo1 fn1 fo2 fn2
  rcases inB_cases fb fa 1000 with hfb | hfb
  rotate_left
  · have HW := Lib.hid (fun w => bWi fb fa 1000 false w hfb)
    clear hfb
    go_wp2_with ((go_at_call 18; ((with_reducible refine (HW.out _).mono ?_)); rintro e w' ⟨rfl, rfl⟩))
    go_ret
    exact ⟨by first | rfl | simp, iB⟩
  have HW := Lib.hid (fun w => bWi fb fa 1000 true w hfb)
  obtain ⟨fb0, fb1⟩ := inB_iff.1 hfb
  obtain ⟨x', hx'⟩ : ∃ z, Hid (ceilX T L fb = z) := ⟨_, Lib.hid rfl⟩
  obtain ⟨y', hy'⟩ : ∃ z, Hid (ceilY T L fb = z) := ⟨_, Lib.hid rfl⟩
  have hg2 : Hid (ceilE T L fb = 0) := ceilE_0 hq.out (inB_true (by omega) fb1)
  have hle := ceil_factor fa0 fb0 fb1 T L 0 0 0 0 HFit.out.allC HFit.out.allL (Int.le_refl _) (Int.le_refl _)
  have hxx : x' ≤ x := by rw [← hx'.out, ceilX, if_pos hg2.out, HX1.out]; exact hle.1
  have hyy : y' ≤ y := by rw [← hy'.out, ceilY, if_pos hg2.out, HY1.out]; exact hle.2
  clear hfb hle
  go_upto_region 23 with ((go_at_call 18; ((with_reducible refine (HW.out _).mono ?_)); rintro e w' ⟨rfl, rfl⟩))
  go_cut [12, 13] from 14 (fun s5 s6 wx => ∃ rb7, s5 = .pointer (some ⟨rb7, 0, none⟩) ∧ s6 = .int .i64 0 ∧ w7.heap.size ≤ rb7 ∧ rb7 < wx.heap.size ∧ wx.cell? ⟨rb7, 0, none⟩ = some (.int .i64 x') ∧ wx.cell? ⟨rb7, 1, none⟩ = some (.int .i64 y') ∧ Below w7.heap.size w7 wx)
  case first =>
    have HS : ∀ w', Below w7.heap.size w7 w' → w'.cell? ⟨w.heap.size, 0, none⟩ = some (.slice A T.length cap) ∧ w'.cell? ⟨w.heap.size, 1, none⟩ = some (.slice B L.length cap') ∧ w'.cell? ⟨w.heap.size + 1, 1, none⟩ = some (.int .i64 fb) := fun w' hb => ⟨(hb.cell (p := ⟨w.heap.size, 0, none⟩) io0).trans i0, (hb.cell (p := ⟨w.heap.size, 1, none⟩) io0).trans i1, (hb.cell (p := ⟨w.heap.size + 1, 1, none⟩) io1).trans i9⟩
    have HS' := Lib.hid HS
    clear HS
    refine wp_region_held_drew (S := (fun w' => w'.cell? ⟨w.heap.size, 0, none⟩ = some (.slice A T.length cap) ∧ w'.cell? ⟨w.heap.size, 1, none⟩ = some (.slice B L.length cap') ∧ w'.cell? ⟨w.heap.size + 1, 1, none⟩ = some (.int .i64 fb))) (by kernel_rfl) (by exact HS'.out _ (Below.refl w7.heap.size w7).drew) (fun hHeld => ?_)
    refine wpAnyH_take (i := 0) (oi := ⟨some 124, _, _, _, _, _⟩) (v := ?_) rfl (by kernel_rfl) (by kernel_rfl) (by kernel_rfl) (fun _ _ _ h => h) (Or.inl ⟨by kernel_rfl, ?_⟩) (by assumption) ?_
    rotate_left
    · (intro w hSw; (try dsimp only at hSw); go_simp; all_goals with_reducible rfl)
    try simp only [Act.put, List.setIfInBounds_toArray, List.set_cons_zero, List.set_cons_succ]
    refine wpAnyH_take (i := 1) (oi := ⟨some 125, _, _, _, _, _⟩) (v := ?_) rfl (by kernel_rfl) (by kernel_rfl) (by kernel_rfl) (fun _ _ _ h => h) (Or.inl ⟨by kernel_rfl, ?_⟩) (by assumption) ?_
    rotate_left
    · (intro w hSw; (try dsimp only at hSw); go_simp; all_goals with_reducible rfl)
    try simp only [Act.put, List.setIfInBounds_toArray, List.set_cons_zero, List.set_cons_succ]
    refine wpAnyH_take (i := 3) (oi := ⟨some 127, _, _, _, _, _⟩) (v := ?_) rfl (by kernel_rfl) (by kernel_rfl) (by kernel_rfl) (fun _ _ _ h => h) (Or.inl ⟨by kernel_rfl, ?_⟩) (by assumption) ?_
    rotate_left
    · (intro w hSw; (try dsimp only at hSw); go_simp; all_goals with_reducible rfl)
    try simp only [Act.put, List.setIfInBounds_toArray, List.set_cons_zero, List.set_cons_succ]
    refine wpAnyH_take (i := 4) (oi := ⟨some 128, _, _, _, _, _⟩) (v := ?_) rfl (by kernel_rfl) (by kernel_rfl) (by kernel_rfl) (fun _ _ _ h => h) (Or.inl ⟨by kernel_rfl, ?_⟩) (by assumption) ?_
    rotate_left
    · (intro w hSw; (try dsimp only at hSw); go_simp; all_goals with_reducible rfl)
    try simp only [Act.put, List.setIfInBounds_toArray, List.set_cons_zero, List.set_cons_succ]
    refine wpAnyH_take (i := 6) (oi := ⟨some 130, _, _, _, _, _⟩) (v := ?_) rfl (by kernel_rfl) (by kernel_rfl) (by kernel_rfl) (fun _ _ _ h => h) (Or.inl ⟨by kernel_rfl, ?_⟩) (by assumption) ?_
    rotate_left
    · (intro w hSw; (try dsimp only at hSw); go_simp; all_goals with_reducible rfl)
    try simp only [Act.put, List.setIfInBounds_toArray, List.set_cons_zero, List.set_cons_succ]
    refine wpAnyH_take (i := 7) (oi := ⟨some 131, _, _, _, _, _⟩) (v := ?_) rfl (by kernel_rfl) (by kernel_rfl) (by kernel_rfl) (fun _ _ _ h => h) (Or.inl ⟨by kernel_rfl, ?_⟩) (by assumption) ?_
    rotate_left
    · (intro w hSw; (try dsimp only at hSw); go_simp; all_goals with_reducible rfl)
    try simp only [Act.put, List.setIfInBounds_toArray, List.set_cons_zero, List.set_cons_succ]
    have hB0 : Below w7.heap.size w7 w7.drew := (Below.refl w7.heap.size w7).drew
    generalize hdr : w7.drew = u0 at *
    clear hdr
    refine wpAnyH_ready (rs := [2, 12]) (by kernel_rfl) (by simp) ?_
    refine AllReadyH.cons rfl (fun K hK => ?_) (AllReadyH.cons rfl (fun K hK => ?_) (AllReadyH.nil))
    · skip
      go_simp
      refine (lawTable_any T A cap _ (by omega) HNA.out (HT.out.below (iB.trans ((hB0).mono iB.size)))).mono ?_
      rintro e u1 ⟨A2, cap2, rfl, hS, _, hb1⟩
      have HT_1 := Lib.hid hS
      clear hS
      have hB1 : Below w7.heap.size w7 u1 := (hB0).trans (hb1.mono (hB0).size)
      go_wp2_with fail
      refine hK.out _ _ (HS'.out _ (hB1)) (fun hHeld => ?_)
      clear hK K
      try simp only [Act.put, List.setIfInBounds_toArray, List.set_cons_zero, List.set_cons_succ]
      refine wpAnyH_ready (rs := [5, 12]) (by kernel_rfl) (by simp) ?_
      refine AllReadyH.cons rfl (fun K hK => ?_) (AllReadyH.cons rfl (fun K hK => ?_) (AllReadyH.nil))
      · skip
        go_simp
        refine (lawLoads_any L B cap' _ (by omega) HNB.out (HL.out.below (iB.trans ((hB1).mono iB.size)))).mono ?_
        rintro e u2 ⟨A3, cap3, rfl, hS, _, hb2⟩
        have HL_2 := Lib.hid hS
        clear hS
        have hB2 : Below w7.heap.size w7 u2 := (hB1).trans (hb2.mono (hB1).size)
        have HT_2 := Lib.hid (HT_1.out.below hb2)
        go_wp2_with fail
        refine hK.out _ _ (HS'.out _ (hB2)) (fun hHeld => ?_)
        clear hK K
        try simp only [Act.put, List.setIfInBounds_toArray, List.set_cons_zero, List.set_cons_succ]
        refine wpAnyH_ready (rs := [8, 12]) (by kernel_rfl) (by simp) ?_
        refine AllReadyH.cons rfl (fun K hK => ?_) (AllReadyH.cons rfl (fun K hK => ?_) (AllReadyH.nil))
        · skip
          go_simp
          refine (Ceiling_x T L A2 A3 cap2 cap3 fb x' y' 0 _ (by omega) (by omega) hx' hy' hg2 (Lib.hid HT_2.out) (Lib.hid HL_2.out)).mono ?_
          rintro e u3 ⟨rfl, hb3⟩
          have hB3 : Below w7.heap.size w7 u3 := (hB2).trans (hb3.mono (hB2).size)
          have HT_3 := Lib.hid (HT_2.out.below hb3)
          have HL_3 := Lib.hid (HL_2.out.below hb3)
          go_wp2_with fail
          refine hK.out _ _ (HS'.out _ (hB3)) (fun hHeld => ?_)
          clear hK K
          try simp only [Act.put, List.setIfInBounds_toArray, List.set_cons_zero, List.set_cons_succ]
          refine wpAnyH_take (i := 9) (oi := ⟨some 123, _, _, _, _, _⟩) (v := ?_) rfl (by kernel_rfl) (by kernel_rfl) (by kernel_rfl) (fun _ _ _ h => h) (Or.inl ⟨by kernel_rfl, ?_⟩) (by assumption) ?_
          rotate_left
          · (intro w hSw; (try dsimp only at hSw); go_simp; all_goals with_reducible rfl)
          try simp only [Act.put, List.setIfInBounds_toArray, List.set_cons_zero, List.set_cons_succ]
          refine wpAnyH_take (i := 10) (oi := ⟨some 133, _, _, _, _, _⟩) (v := ?_) rfl (by kernel_rfl) (by kernel_rfl) (by kernel_rfl) (fun _ _ _ h => h) (Or.inl ⟨by kernel_rfl, ?_⟩) (by assumption) ?_
          rotate_left
          · (intro w hSw; (try dsimp only at hSw); go_simp; all_goals with_reducible rfl)
          try simp only [Act.put, List.setIfInBounds_toArray, List.set_cons_zero, List.set_cons_succ]
          refine wpAnyH_take (i := 11) (oi := ⟨some 134, _, _, _, _, _⟩) (v := ?_) rfl (by kernel_rfl) (by kernel_rfl) (by kernel_rfl) (fun _ _ _ h => h) (Or.inl ⟨by kernel_rfl, ?_⟩) (by assumption) ?_
          rotate_left
          · (intro w hSw; (try dsimp only at hSw); go_simp; all_goals with_reducible rfl)
          try simp only [Act.put, List.setIfInBounds_toArray, List.set_cons_zero, List.set_cons_succ]
          refine wpAnyH_ready (rs := [12]) (by kernel_rfl) (by simp) ?_
          refine AllReadyH.cons rfl (fun K hK => ?_) (AllReadyH.nil)
          go_simp
          go_wp2_with fail
          refine hK.out _ _ (HS'.out _ ((hB3).alloc (hB3).size _)) (fun hHeld => ?_)
          clear hK K
          try simp only [Act.put, List.setIfInBounds_toArray, List.set_cons_zero, List.set_cons_succ]
          generalize hq4 : u3.alloc (.cells #[.int .i64 0, .int .i64 0] 24) = u4
          have hb4 : Below u3.heap.size u3 u4 := by rw [← hq4]; exact (Below.refl _ _).alloc (Nat.le_refl _) _
          have hB4 : Below w7.heap.size w7 u4 := (hB3).trans (hb4.mono (hB3).size)
          have HT_4 := Lib.hid (HT_3.out.below hb4)
          have HL_4 := Lib.hid (HL_3.out.below hb4)
          have h5_4 : (∀ i, i < 2 → ∃ v, u4.cell? ⟨u3.heap.size, i, none⟩ = some v) ∧ (∀ j, u4.frozen? ⟨u3.heap.size, j, none⟩ = false) := by rw [← hq4]; exact new2_is u3 _ _ _
          have q5_4 : u3.heap.size < u4.heap.size := by rw [← hq4]; simp
          have g5 : w7.heap.size ≤ u3.heap.size := (hB3).size
          clear hq4
          obtain ⟨⟨ev0, e0⟩, ⟨ev1, e1⟩⟩ := And.intro (h5_4.1 0 (by omega)) (h5_4.1 1 (by omega))
          have ef := h5_4.2
          have HH := Lib.hid (set2_is (X := u4) (b := u3.heap.size) (.int .i64 x') (.int .i64 y') h5_4.1 h5_4.2)
          have HBs := Lib.hid (set2_below (u0 := .int .i64 x') (u1 := .int .i64 y') hB4 g5)
          refine wpAnyH_ready (rs := [13]) (by kernel_rfl) (by simp) ?_
          refine AllReadyH.cons rfl (fun K hK => ?_) (AllReadyH.nil)
          go_simp
          go_wp2_with fail
          refine hK.out _ _ (HS'.out _ (HBs.out)) (fun hHeld => ?_)
          clear hK K
          try simp only [Act.put, List.setIfInBounds_toArray, List.set_cons_zero, List.set_cons_succ]
          refine wpAnyH_take (i := 14) (oi := ⟨some 13, _, _, _, _, _⟩) (v := ?_) rfl (by kernel_rfl) (by kernel_rfl) (by kernel_rfl) (fun _ _ _ h => h) (Or.inl ⟨by kernel_rfl, ?_⟩) (by assumption) ?_
          rotate_left
          · (intro w hSw; (try dsimp only at hSw); go_simp; all_goals with_reducible rfl)
          try simp only [Act.put, List.setIfInBounds_toArray, List.set_cons_zero, List.set_cons_succ]
          refine wpAnyH_done (by kernel_rfl) ?_ _
          go_wp2_with fail
          go_meet
          exact ⟨u3.heap.size, rfl, rfl, g5, (by have := q5_4; simpa [size_set] using this), HH.out.1, HH.out.2.1, HBs.out⟩
        · skip
          go_simp
          go_wp2_with fail
          refine hK.out _ _ (HS'.out _ ((hB2).alloc (hB2).size _)) (fun hHeld => ?_)
          clear hK K
          try simp only [Act.put, List.setIfInBounds_toArray, List.set_cons_zero, List.set_cons_succ]
          generalize hq3 : u2.alloc (.cells #[.int .i64 0, .int .i64 0] 24) = u3
          have hb3 : Below u2.heap.size u2 u3 := by rw [← hq3]; exact (Below.refl _ _).alloc (Nat.le_refl _) _
          have hB3 : Below w7.heap.size w7 u3 := (hB2).trans (hb3.mono (hB2).size)
          have HT_3 := Lib.hid (HT_2.out.below hb3)
          have HL_3 := Lib.hid (HL_2.out.below hb3)
          have h5_3 : (∀ i, i < 2 → ∃ v, u3.cell? ⟨u2.heap.size, i, none⟩ = some v) ∧ (∀ j, u3.frozen? ⟨u2.heap.size, j, none⟩ = false) := by rw [← hq3]; exact new2_is u2 _ _ _
          have q5_3 : u2.heap.size < u3.heap.size := by rw [← hq3]; simp
          have g5 : w7.heap.size ≤ u2.heap.size := (hB2).size
          clear hq3
          refine wpAnyH_ready (rs := [8]) (by kernel_rfl) (by simp) ?_
          refine AllReadyH.cons rfl (fun K hK => ?_) (AllReadyH.nil)
          go_simp
          refine (Ceiling_x T L A2 A3 cap2 cap3 fb x' y' 0 _ (by omega) (by omega) hx' hy' hg2 (Lib.hid HT_3.out) (Lib.hid HL_3.out)).mono ?_
          rintro e u4 ⟨rfl, hb4⟩
          have hB4 : Below w7.heap.size w7 u4 := (hB3).trans (hb4.mono (hB3).size)
          have HT_4 := Lib.hid (HT_3.out.below hb4)
          have HL_4 := Lib.hid (HL_3.out.below hb4)
          have h5_4 := has2_below (b := u2.heap.size) h5_3 hb4 q5_3
          have q5_4 : u2.heap.size < u4.heap.size := Nat.lt_of_lt_of_le q5_3 hb4.size
          go_wp2_with fail
          refine hK.out _ _ (HS'.out _ (hB4)) (fun hHeld => ?_)
          clear hK K
          try simp only [Act.put, List.setIfInBounds_toArray, List.set_cons_zero, List.set_cons_succ]
          refine wpAnyH_take (i := 9) (oi := ⟨some 123, _, _, _, _, _⟩) (v := ?_) rfl (by kernel_rfl) (by kernel_rfl) (by kernel_rfl) (fun _ _ _ h => h) (Or.inl ⟨by kernel_rfl, ?_⟩) (by assumption) ?_
          rotate_left
          · (intro w hSw; (try dsimp only at hSw); go_simp; all_goals with_reducible rfl)
          try simp only [Act.put, List.setIfInBounds_toArray, List.set_cons_zero, List.set_cons_succ]
          refine wpAnyH_take (i := 10) (oi := ⟨some 133, _, _, _, _, _⟩) (v := ?_) rfl (by kernel_rfl) (by kernel_rfl) (by kernel_rfl) (fun _ _ _ h => h) (Or.inl ⟨by kernel_rfl, ?_⟩) (by assumption) ?_
          rotate_left
          · (intro w hSw; (try dsimp only at hSw); go_simp; all_goals with_reducible rfl)
          try simp only [Act.put, List.setIfInBounds_toArray, List.set_cons_zero, List.set_cons_succ]
          refine wpAnyH_take (i := 11) (oi := ⟨some 134, _, _, _, _, _⟩) (v := ?_) rfl (by kernel_rfl) (by kernel_rfl) (by kernel_rfl) (fun _ _ _ h => h) (Or.inl ⟨by kernel_rfl, ?_⟩) (by assumption) ?_
          rotate_left
          · (intro w hSw; (try dsimp only at hSw); go_simp; all_goals with_reducible rfl)
          try simp only [Act.put, List.setIfInBounds_toArray, List.set_cons_zero, List.set_cons_succ]
          obtain ⟨⟨ev0, e0⟩, ⟨ev1, e1⟩⟩ := And.intro (h5_4.1 0 (by omega)) (h5_4.1 1 (by omega))
          have ef := h5_4.2
          have HH := Lib.hid (set2_is (X := u4) (b := u2.heap.size) (.int .i64 x') (.int .i64 y') h5_4.1 h5_4.2)
          have HBs := Lib.hid (set2_below (u0 := .int .i64 x') (u1 := .int .i64 y') hB4 g5)
          refine wpAnyH_ready (rs := [13]) (by kernel_rfl) (by simp) ?_
          refine AllReadyH.cons rfl (fun K hK => ?_) (AllReadyH.nil)
          go_simp
          go_wp2_with fail
          refine hK.out _ _ (HS'.out _ (HBs.out)) (fun hHeld => ?_)
          clear hK K
          try simp only [Act.put, List.setIfInBounds_toArray, List.set_cons_zero, List.set_cons_succ]
          refine wpAnyH_take (i := 14) (oi := ⟨some 13, _, _, _, _, _⟩) (v := ?_) rfl (by kernel_rfl) (by kernel_rfl) (by kernel_rfl) (fun _ _ _ h => h) (Or.inl ⟨by kernel_rfl, ?_⟩) (by assumption) ?_
          rotate_left
          · (intro w hSw; (try dsimp only at hSw); go_simp; all_goals with_reducible rfl)
          try simp only [Act.put, List.setIfInBounds_toArray, List.set_cons_zero, List.set_cons_succ]
          refine wpAnyH_done (by kernel_rfl) ?_ _
          go_wp2_with fail
          go_meet
          exact ⟨u2.heap.size, rfl, rfl, g5, (by have := q5_4; simpa [size_set] using this), HH.out.1, HH.out.2.1, HBs.out⟩
      · skip
        go_simp
        go_wp2_with fail
        refine hK.out _ _ (HS'.out _ ((hB1).alloc (hB1).size _)) (fun hHeld => ?_)
        clear hK K
        try simp only [Act.put, List.setIfInBounds_toArray, List.set_cons_zero, List.set_cons_succ]
        generalize hq2 : u1.alloc (.cells #[.int .i64 0, .int .i64 0] 24) = u2
        have hb2 : Below u1.heap.size u1 u2 := by rw [← hq2]; exact (Below.refl _ _).alloc (Nat.le_refl _) _
        have hB2 : Below w7.heap.size w7 u2 := (hB1).trans (hb2.mono (hB1).size)
        have HT_2 := Lib.hid (HT_1.out.below hb2)
        have h5_2 : (∀ i, i < 2 → ∃ v, u2.cell? ⟨u1.heap.size, i, none⟩ = some v) ∧ (∀ j, u2.frozen? ⟨u1.heap.size, j, none⟩ = false) := by rw [← hq2]; exact new2_is u1 _ _ _
        have q5_2 : u1.heap.size < u2.heap.size := by rw [← hq2]; simp
        have g5 : w7.heap.size ≤ u1.heap.size := (hB1).size
        clear hq2
        refine wpAnyH_ready (rs := [5]) (by kernel_rfl) (by simp) ?_
        refine AllReadyH.cons rfl (fun K hK => ?_) (AllReadyH.nil)
        go_simp
        refine (lawLoads_any L B cap' _ (by omega) HNB.out (HL.out.below (iB.trans ((hB2).mono iB.size)))).mono ?_
        rintro e u3 ⟨A3, cap3, rfl, hS, _, hb3⟩
        have HL_3 := Lib.hid hS
        clear hS
        have hB3 : Below w7.heap.size w7 u3 := (hB2).trans (hb3.mono (hB2).size)
        have HT_3 := Lib.hid (HT_2.out.below hb3)
        have h5_3 := has2_below (b := u1.heap.size) h5_2 hb3 q5_2
        have q5_3 : u1.heap.size < u3.heap.size := Nat.lt_of_lt_of_le q5_2 hb3.size
        go_wp2_with fail
        refine hK.out _ _ (HS'.out _ (hB3)) (fun hHeld => ?_)
        clear hK K
        try simp only [Act.put, List.setIfInBounds_toArray, List.set_cons_zero, List.set_cons_succ]
        refine wpAnyH_ready (rs := [8]) (by kernel_rfl) (by simp) ?_
        refine AllReadyH.cons rfl (fun K hK => ?_) (AllReadyH.nil)
        go_simp
        refine (Ceiling_x T L A2 A3 cap2 cap3 fb x' y' 0 _ (by omega) (by omega) hx' hy' hg2 (Lib.hid HT_3.out) (Lib.hid HL_3.out)).mono ?_
        rintro e u4 ⟨rfl, hb4⟩
        have hB4 : Below w7.heap.size w7 u4 := (hB3).trans (hb4.mono (hB3).size)
        have HT_4 := Lib.hid (HT_3.out.below hb4)
        have HL_4 := Lib.hid (HL_3.out.below hb4)
        have h5_4 := has2_below (b := u1.heap.size) h5_3 hb4 q5_3
        have q5_4 : u1.heap.size < u4.heap.size := Nat.lt_of_lt_of_le q5_3 hb4.size
        go_wp2_with fail
        refine hK.out _ _ (HS'.out _ (hB4)) (fun hHeld => ?_)
        clear hK K
        try simp only [Act.put, List.setIfInBounds_toArray, List.set_cons_zero, List.set_cons_succ]
        refine wpAnyH_take (i := 9) (oi := ⟨some 123, _, _, _, _, _⟩) (v := ?_) rfl (by kernel_rfl) (by kernel_rfl) (by kernel_rfl) (fun _ _ _ h => h) (Or.inl ⟨by kernel_rfl, ?_⟩) (by assumption) ?_
        rotate_left
        · (intro w hSw; (try dsimp only at hSw); go_simp; all_goals with_reducible rfl)
        try simp only [Act.put, List.setIfInBounds_toArray, List.set_cons_zero, List.set_cons_succ]
        refine wpAnyH_take (i := 10) (oi := ⟨some 133, _, _, _, _, _⟩) (v := ?_) rfl (by kernel_rfl) (by kernel_rfl) (by kernel_rfl) (fun _ _ _ h => h) (Or.inl ⟨by kernel_rfl, ?_⟩) (by assumption) ?_
        rotate_left
        · (intro w hSw; (try dsimp only at hSw); go_simp; all_goals with_reducible rfl)
        try simp only [Act.put, List.setIfInBounds_toArray, List.set_cons_zero, List.set_cons_succ]
        refine wpAnyH_take (i := 11) (oi := ⟨some 134, _, _, _, _, _⟩) (v := ?_) rfl (by kernel_rfl) (by kernel_rfl) (by kernel_rfl) (fun _ _ _ h => h) (Or.inl ⟨by kernel_rfl, ?_⟩) (by assumption) ?_
        rotate_left
        · (intro w hSw; (try dsimp only at hSw); go_simp; all_goals with_reducible rfl)
        try simp only [Act.put, List.setIfInBounds_toArray, List.set_cons_zero, List.set_cons_succ]
        obtain ⟨⟨ev0, e0⟩, ⟨ev1, e1⟩⟩ := And.intro (h5_4.1 0 (by omega)) (h5_4.1 1 (by omega))
        have ef := h5_4.2
        have HH := Lib.hid (set2_is (X := u4) (b := u1.heap.size) (.int .i64 x') (.int .i64 y') h5_4.1 h5_4.2)
        have HBs := Lib.hid (set2_below (u0 := .int .i64 x') (u1 := .int .i64 y') hB4 g5)
        refine wpAnyH_ready (rs := [13]) (by kernel_rfl) (by simp) ?_
        refine AllReadyH.cons rfl (fun K hK => ?_) (AllReadyH.nil)
        go_simp
        go_wp2_with fail
        refine hK.out _ _ (HS'.out _ (HBs.out)) (fun hHeld => ?_)
        clear hK K
        try simp only [Act.put, List.setIfInBounds_toArray, List.set_cons_zero, List.set_cons_succ]
        refine wpAnyH_take (i := 14) (oi := ⟨some 13, _, _, _, _, _⟩) (v := ?_) rfl (by kernel_rfl) (by kernel_rfl) (by kernel_rfl) (fun _ _ _ h => h) (Or.inl ⟨by kernel_rfl, ?_⟩) (by assumption) ?_
        rotate_left
        · (intro w hSw; (try dsimp only at hSw); go_simp; all_goals with_reducible rfl)
        try simp only [Act.put, List.setIfInBounds_toArray, List.set_cons_zero, List.set_cons_succ]
        refine wpAnyH_done (by kernel_rfl) ?_ _
        go_wp2_with fail
        go_meet
        exact ⟨u1.heap.size, rfl, rfl, g5, (by have := q5_4; simpa [size_set] using this), HH.out.1, HH.out.2.1, HBs.out⟩
    · skip
      go_simp
      go_wp2_with fail
      refine hK.out _ _ (HS'.out _ ((hB0).alloc (hB0).size _)) (fun hHeld => ?_)
      clear hK K
      try simp only [Act.put, List.setIfInBounds_toArray, List.set_cons_zero, List.set_cons_succ]
      generalize hq1 : u0.alloc (.cells #[.int .i64 0, .int .i64 0] 24) = u1
      have hb1 : Below u0.heap.size u0 u1 := by rw [← hq1]; exact (Below.refl _ _).alloc (Nat.le_refl _) _
      have hB1 : Below w7.heap.size w7 u1 := (hB0).trans (hb1.mono (hB0).size)
      have h5_1 : (∀ i, i < 2 → ∃ v, u1.cell? ⟨u0.heap.size, i, none⟩ = some v) ∧ (∀ j, u1.frozen? ⟨u0.heap.size, j, none⟩ = false) := by rw [← hq1]; exact new2_is u0 _ _ _
      have q5_1 : u0.heap.size < u1.heap.size := by rw [← hq1]; simp
      have g5 : w7.heap.size ≤ u0.heap.size := (hB0).size
      clear hq1
      refine wpAnyH_ready (rs := [2]) (by kernel_rfl) (by simp) ?_
      refine AllReadyH.cons rfl (fun K hK => ?_) (AllReadyH.nil)
      go_simp
      refine (lawTable_any T A cap _ (by omega) HNA.out (HT.out.below (iB.trans ((hB1).mono iB.size)))).mono ?_
      rintro e u2 ⟨A2, cap2, rfl, hS, _, hb2⟩
      have HT_2 := Lib.hid hS
      clear hS
      have hB2 : Below w7.heap.size w7 u2 := (hB1).trans (hb2.mono (hB1).size)
      have h5_2 := has2_below (b := u0.heap.size) h5_1 hb2 q5_1
      have q5_2 : u0.heap.size < u2.heap.size := Nat.lt_of_lt_of_le q5_1 hb2.size
      go_wp2_with fail
      refine hK.out _ _ (HS'.out _ (hB2)) (fun hHeld => ?_)
      clear hK K
      try simp only [Act.put, List.setIfInBounds_toArray, List.set_cons_zero, List.set_cons_succ]
      refine wpAnyH_ready (rs := [5]) (by kernel_rfl) (by simp) ?_
      refine AllReadyH.cons rfl (fun K hK => ?_) (AllReadyH.nil)
      go_simp
      refine (lawLoads_any L B cap' _ (by omega) HNB.out (HL.out.below (iB.trans ((hB2).mono iB.size)))).mono ?_
      rintro e u3 ⟨A3, cap3, rfl, hS, _, hb3⟩
      have HL_3 := Lib.hid hS
      clear hS
      have hB3 : Below w7.heap.size w7 u3 := (hB2).trans (hb3.mono (hB2).size)
      have HT_3 := Lib.hid (HT_2.out.below hb3)
      have h5_3 := has2_below (b := u0.heap.size) h5_2 hb3 q5_2
      have q5_3 : u0.heap.size < u3.heap.size := Nat.lt_of_lt_of_le q5_2 hb3.size
      go_wp2_with fail
      refine hK.out _ _ (HS'.out _ (hB3)) (fun hHeld => ?_)
      clear hK K
      try simp only [Act.put, List.setIfInBounds_toArray, List.set_cons_zero, List.set_cons_succ]
      refine wpAnyH_ready (rs := [8]) (by kernel_rfl) (by simp) ?_
      refine AllReadyH.cons rfl (fun K hK => ?_) (AllReadyH.nil)
      go_simp
      refine (Ceiling_x T L A2 A3 cap2 cap3 fb x' y' 0 _ (by omega) (by omega) hx' hy' hg2 (Lib.hid HT_3.out) (Lib.hid HL_3.out)).mono ?_
      rintro e u4 ⟨rfl, hb4⟩
      have hB4 : Below w7.heap.size w7 u4 := (hB3).trans (hb4.mono (hB3).size)
      have HT_4 := Lib.hid (HT_3.out.below hb4)
      have HL_4 := Lib.hid (HL_3.out.below hb4)
      have h5_4 := has2_below (b := u0.heap.size) h5_3 hb4 q5_3
      have q5_4 : u0.heap.size < u4.heap.size := Nat.lt_of_lt_of_le q5_3 hb4.size
      go_wp2_with fail
      refine hK.out _ _ (HS'.out _ (hB4)) (fun hHeld => ?_)
      clear hK K
      try simp only [Act.put, List.setIfInBounds_toArray, List.set_cons_zero, List.set_cons_succ]
      refine wpAnyH_take (i := 9) (oi := ⟨some 123, _, _, _, _, _⟩) (v := ?_) rfl (by kernel_rfl) (by kernel_rfl) (by kernel_rfl) (fun _ _ _ h => h) (Or.inl ⟨by kernel_rfl, ?_⟩) (by assumption) ?_
      rotate_left
      · (intro w hSw; (try dsimp only at hSw); go_simp; all_goals with_reducible rfl)
      try simp only [Act.put, List.setIfInBounds_toArray, List.set_cons_zero, List.set_cons_succ]
      refine wpAnyH_take (i := 10) (oi := ⟨some 133, _, _, _, _, _⟩) (v := ?_) rfl (by kernel_rfl) (by kernel_rfl) (by kernel_rfl) (fun _ _ _ h => h) (Or.inl ⟨by kernel_rfl, ?_⟩) (by assumption) ?_
      rotate_left
      · (intro w hSw; (try dsimp only at hSw); go_simp; all_goals with_reducible rfl)
      try simp only [Act.put, List.setIfInBounds_toArray, List.set_cons_zero, List.set_cons_succ]
      refine wpAnyH_take (i := 11) (oi := ⟨some 134, _, _, _, _, _⟩) (v := ?_) rfl (by kernel_rfl) (by kernel_rfl) (by kernel_rfl) (fun _ _ _ h => h) (Or.inl ⟨by kernel_rfl, ?_⟩) (by assumption) ?_
      rotate_left
      · (intro w hSw; (try dsimp only at hSw); go_simp; all_goals with_reducible rfl)
      try simp only [Act.put, List.setIfInBounds_toArray, List.set_cons_zero, List.set_cons_succ]
      obtain ⟨⟨ev0, e0⟩, ⟨ev1, e1⟩⟩ := And.intro (h5_4.1 0 (by omega)) (h5_4.1 1 (by omega))
      have ef := h5_4.2
      have HH := Lib.hid (set2_is (X := u4) (b := u0.heap.size) (.int .i64 x') (.int .i64 y') h5_4.1 h5_4.2)
      have HBs := Lib.hid (set2_below (u0 := .int .i64 x') (u1 := .int .i64 y') hB4 g5)
      refine wpAnyH_ready (rs := [13]) (by kernel_rfl) (by simp) ?_
      refine AllReadyH.cons rfl (fun K hK => ?_) (AllReadyH.nil)
      go_simp
      go_wp2_with fail
      refine hK.out _ _ (HS'.out _ (HBs.out)) (fun hHeld => ?_)
      clear hK K
      try simp only [Act.put, List.setIfInBounds_toArray, List.set_cons_zero, List.set_cons_succ]
      refine wpAnyH_take (i := 14) (oi := ⟨some 13, _, _, _, _, _⟩) (v := ?_) rfl (by kernel_rfl) (by kernel_rfl) (by kernel_rfl) (fun _ _ _ h => h) (Or.inl ⟨by kernel_rfl, ?_⟩) (by assumption) ?_
      rotate_left
      · (intro w hSw; (try dsimp only at hSw); go_simp; all_goals with_reducible rfl)
      try simp only [Act.put, List.setIfInBounds_toArray, List.set_cons_zero, List.set_cons_succ]
      refine wpAnyH_done (by kernel_rfl) ?_ _
      go_wp2_with fail
      go_meet
      exact ⟨u0.heap.size, rfl, rfl, g5, (by have := q5_4; simpa [size_set] using this), HH.out.1, HH.out.2.1, HBs.out⟩
  case rest =>
  obtain ⟨rb7, rfl, rfl, g7, l7, x0, x1, hbc⟩ := hcut
  obtain ⟨w8, hw8⟩ : ∃ V, V = wc := ⟨_, rfl⟩
  rw [← hw8] at l7 x0 x1 hbc
  rw [← hw8]
  clear hw8
  have zj := hbc.size
  have j0 := (hbc.cell (p := ⟨w.heap.size, 0, none⟩) io0).trans i0
  have j1 := (hbc.cell (p := ⟨w.heap.size, 1, none⟩) io0).trans i1
  have j2 := (hbc.cell (p := ⟨w.heap.size, 2, none⟩) io0).trans i2
  have j3 := (hbc.cell (p := ⟨w.heap.size, 3, none⟩) io0).trans i3
  have j4 := (hbc.cell (p := ⟨w.heap.size, 4, none⟩) io0).trans i4
  have j5 := (hbc.cell (p := ⟨w.heap.size, 5, none⟩) io0).trans i5
  have j6 := (hbc.cell (p := ⟨w.heap.size, 6, none⟩) io0).trans i6
  have j7 := (hbc.cell (p := ⟨w.heap.size, 7, none⟩) io0).trans i7
  have j8 := (hbc.cell (p := ⟨w.heap.size + 1, 0, none⟩) io1).trans i8
  have j9 := (hbc.cell (p := ⟨w.heap.size + 1, 1, none⟩) io1).trans i9
  have j10 := (hbc.cell (p := ⟨rb5, 0, none⟩) io2).trans i10
  have j11 := (hbc.cell (p := ⟨rb5, 1, none⟩) io2).trans i11
  have jB : Below w.heap.size w w8 := iB.trans (hbc.mono iB.size)
  have jo0 : w.heap.size < w8.heap.size := by omega
  have jn0 : w8.heap.size ≠ w.heap.size := by omega
  have jo1 : w.heap.size + 1 < w8.heap.size := by omega
  have jn1 : w8.heap.size ≠ w.heap.size + 1 := by omega
  have jo2 : rb5 < w8.heap.size := by omega
  have jn2 : w8.heap.size ≠ rb5 := by omega
  clear hbc i0 i1 i2 i3 i4 i5 i6 i7 i8 i9 i10 i11 iB io0 in0 io1 in1 io2 in2
  go_wp2
  go_ret
  exact ⟨by first | rfl | simp, jB⟩
end Go.Proofs.Ytchfhhmmjioajaa
