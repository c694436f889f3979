/- The walk of shotlinelaw01.GasGaps: it returns true. -/
import Derived.Test.YtebieflnlmdllaaDoorLawRichest
import Derived.Test.YtebieflnlmdllaaDoorRefGap
import Derived.Outline
namespace Go.Proofs.YtebieflnlmdllaaDoor
open Go.ChangeShapes Go.WideShapes Go.ChangeAt Go.RowKit
set_option linter.unusedVariables false
set_option linter.unusedSimpArgs false
attribute [local go_sem ↓] Go.wp_at_zero Go.wp_at_succ

theorem noGap_of {P : List Gs} {s a b lo hi : Int} (h : ¬ ∃ x, IsGap P s a b lo hi x) : NoGap P s a b lo hi := by
  have H : ∀ n : Nat, ∀ y, lo ≤ y → y ≤ hi → y < lo + n → brAny P s a b y := by
    intro n
    induction n with
    | zero => intro y h1 h2 h3; omega
    | succ n ih =>
      intro y h1 h2 h3
      by_cases c : y < lo + n
      · exact ih y h1 h2 c
      · by_cases hb : brAny P s a b y
        · exact hb
        · exact absurd ⟨y, h1, h2, hb, fun z z1 z2 => ih z z1 (by omega) (by omega)⟩ h
  intro y h1 h2
  exact H (y - lo + 1).toNat y h1 h2 (by omega)
theorem FirstGap_bad (P : List Gs) (A : Option Addr) (cap : Nat) (s a b lo hi c : Int) (w : World) (hl : P.length ≤ 1000000) (hS : SlAt w A P) (hc : Hid (gapE P s a b lo hi = c)) (hn : Hid (c ≠ 0)) :
    Calls Tryd.prog 51 #[.slice A P.length cap, .int .i64 s, .agg #[.int .i64 a, .int .i64 b], .agg #[.int .i64 lo, .int .i64 hi]] w fun e w' => e = .returned (.tuple #[.int .i64 0, .int .i64 c]) ∧ Below w.heap.size w w' :=
  (FirstGap_any P A cap s a b lo hi w hl hS).mono fun e w' ⟨h, hb⟩ => ⟨by
    rcases h with ⟨_, h⟩ | ⟨h0, _⟩ | ⟨h0, _⟩
    · rw [h, hc.out]
    · exact absurd (hc.out.symm.trans h0) hn.out
    · exact absurd (hc.out.symm.trans h0) hn.out, hb⟩
theorem FirstGap_gap (P : List Gs) (A : Option Addr) (cap : Nat) (s a b lo hi g : Int) (w : World) (hl : P.length ≤ 1000000) (hS : SlAt w A P) (hc : Hid (gapE P s a b lo hi = 0)) (hg : Hid (IsGap P s a b lo hi g)) :
    Calls Tryd.prog 51 #[.slice A P.length cap, .int .i64 s, .agg #[.int .i64 a, .int .i64 b], .agg #[.int .i64 lo, .int .i64 hi]] w fun e w' => e = .returned (.tuple #[.int .i64 g, .int .i64 0]) ∧ Below w.heap.size w w' :=
  (FirstGap_any P A cap s a b lo hi w hl hS).mono fun e w' ⟨h, hb⟩ => ⟨by
    rcases h with ⟨h0, _⟩ | ⟨_, x, hx, h⟩ | ⟨_, h0, _⟩
    · exact absurd hc.out h0
    · rw [h, hx.same hg.out]
    · exact (hg.out.no h0).elim, hb⟩
theorem FirstGap_none (P : List Gs) (A : Option Addr) (cap : Nat) (s a b lo hi : Int) (w : World) (hl : P.length ≤ 1000000) (hS : SlAt w A P) (hc : Hid (gapE P s a b lo hi = 0)) (hg : Hid (NoGap P s a b lo hi)) :
    Calls Tryd.prog 51 #[.slice A P.length cap, .int .i64 s, .agg #[.int .i64 a, .int .i64 b], .agg #[.int .i64 lo, .int .i64 hi]] w fun e w' => e = .returned (.tuple #[.int .i64 0, .int .i64 12]) ∧ Below w.heap.size w w' :=
  (FirstGap_any P A cap s a b lo hi w hl hS).mono fun e w' ⟨h, hb⟩ => ⟨by
    rcases h with ⟨h0, _⟩ | ⟨_, x, hx, h⟩ | ⟨_, h0, h⟩
    · exact absurd hc.out h0
    · exact (hx.no hg.out).elim
    · exact h, hb⟩
theorem CheckPlace_c (s d c : Int) (w : World) (h : Hid (plE s d = c)) :
    Calls Tryd.prog 25 #[.int .i64 s, .int .i64 d] w fun e w' => e = .returned (.int .i64 c) ∧ w = w' := by
  have := CheckPlace_any s d w
  rw [h.out] at this
  exact this
theorem refCheckLimits_c (a b c : Int) (w : World) (hc : Hid (limE a b = c)) :
    Calls Tryd.prog 31 #[.agg #[.int .i64 a, .int .i64 b]] w fun e w' => e = .returned (.int .i64 c) ∧ w.alloc (.cells #[.int .i64 a, .int .i64 b] 47) = w' := by
  have := refCheckLimits_any a b w
  rw [hc.out] at this
  exact this
theorem plE_s (s : Int) : plE s 0 = rngE s 400 1100 := by
  unfold plE
  rw [show rngE 0 0 30000 = 0 from rngE_t (inB_true (by omega) (by omega))]
  by_cases c : rngE s 400 1100 = 0 <;> simp [firE, c]
set_option maxRecDepth 100000 in
set_option maxHeartbeats 4000000 in
theorem plaw_big (P : List Gs) (A : Option Addr) (cap : Nat) (o h s a b lo hi : Int) (w : World) (m : Int) (hm : w.cell? ⟨1, 0, none⟩ = some (.int .i64 m)) (hl : P.length ≤ 9223372036854775807) (hx : Hid (decide (P.length ≤ 11) = false)) :
    Calls Tryd.prog 13 #[.slice A P.length cap, .agg #[.int .i64 o, .int .i64 h, .int .i64 s, .int .i64 a, .int .i64 b], .agg #[.int .i64 lo, .int .i64 hi]] w fun e w' => e = .returned (.bool true) ∧ Below w.heap.size w w' := by
  have hlm := World.block_lt_of_cell? _ _ hm
  have hne : w.heap.size ≠ 1 := by simp at hlm; omega
  have hl2 : 1 < w.heap.size := by simpa using hlm
  clear hlm
  go_enter Tryd.func13, Tryd.ntmps13
  go_wp2_with fail
  refine (awake_any _ m (by exact oldCell3 (by (repeat (first | (with_reducible refine Below.drew ?_) | (with_reducible refine below_drewN ?_ _) | (with_reducible refine Below.alloc ?_ (by first | omega | (simp; done) | (simp; omega) | (simp at *; omega)) _) | (with_reducible refine Below.setCell ?_ (by first | omega | (simp; done) | (simp; omega) | (simp at *; omega)) _) | (with_reducible exact Below.refl _ _) | (with_reducible assumption) | (with_reducible refine Below.trans ?_ (Below.mono (by assumption) (by first | omega | (simp; done) | (simp; omega) | (simp at *; omega))))))) hm)).mono ?_
  rintro e w1 ⟨rfl, hbw1⟩
  have z1 := hbw1.size
  try simp at z1
  have c1_0 : w1.cell? ⟨w.heap.size, 0, none⟩ = some (.int .i64 o) := by rw [(bcell hbw1).1 _ _ (by first | (simp; done) | (simp; omega) | omega)]; simp [go_sem, World.cell?_alloc_past, *]
  have c1_1 : w1.cell? ⟨w.heap.size, 1, none⟩ = some (.int .i64 h) := by rw [(bcell hbw1).1 _ _ (by first | (simp; done) | (simp; omega) | omega)]; simp [go_sem, World.cell?_alloc_past, *]
  have c1_2 : w1.cell? ⟨w.heap.size, 2, none⟩ = some (.int .i64 s) := by rw [(bcell hbw1).1 _ _ (by first | (simp; done) | (simp; omega) | omega)]; simp [go_sem, World.cell?_alloc_past, *]
  have c1_3 : w1.cell? ⟨w.heap.size, 3, none⟩ = some (.int .i64 a) := by rw [(bcell hbw1).1 _ _ (by first | (simp; done) | (simp; omega) | omega)]; simp [go_sem, World.cell?_alloc_past, *]
  have c1_4 : w1.cell? ⟨w.heap.size, 4, none⟩ = some (.int .i64 b) := by rw [(bcell hbw1).1 _ _ (by first | (simp; done) | (simp; omega) | omega)]; simp [go_sem, World.cell?_alloc_past, *]
  have c1_5 : w1.cell? ⟨w.heap.size + 1, 0, none⟩ = some (.int .i64 lo) := by rw [(bcell hbw1).1 _ _ (by first | (simp; done) | (simp; omega) | omega)]; simp [go_sem, World.cell?_alloc_past, *]
  have c1_6 : w1.cell? ⟨w.heap.size + 1, 1, none⟩ = some (.int .i64 hi) := by rw [(bcell hbw1).1 _ _ (by first | (simp; done) | (simp; omega) | omega)]; simp [go_sem, World.cell?_alloc_past, *]
  have hB1 : Below w.heap.size w w1 := (by (repeat (first | (with_reducible refine Below.drew ?_) | (with_reducible refine below_drewN ?_ _) | (with_reducible refine Below.alloc ?_ (by first | omega | (simp; done) | (simp; omega) | (simp at *; omega)) _) | (with_reducible refine Below.setCell ?_ (by first | omega | (simp; done) | (simp; omega) | (simp at *; omega)) _) | (with_reducible exact Below.refl _ _) | (with_reducible assumption) | (with_reducible refine Below.trans ?_ (Below.mono (by assumption) (by first | omega | (simp; done) | (simp; omega) | (simp at *; omega)))))))
  have o1_0 : w.heap.size < w1.heap.size := by omega
  have n1_0 : w1.heap.size ≠ w.heap.size := by omega
  have t1_0_1 : w.heap.size < w1.heap.size + 1 := by omega
  have t1_0_2 : w.heap.size < w1.heap.size + 1 + 1 := by omega
  have t1_0_3 : w.heap.size < w1.heap.size + 1 + 1 + 1 := by omega
  have t1_0_4 : w.heap.size < w1.heap.size + 1 + 1 + 1 + 1 := by omega
  have t1_0_5 : w.heap.size < w1.heap.size + 1 + 1 + 1 + 1 + 1 := by omega
  have t1_0_6 : w.heap.size < w1.heap.size + 1 + 1 + 1 + 1 + 1 + 1 := by omega
  have o1_1 : w.heap.size + 1 < w1.heap.size := by omega
  have n1_1 : w1.heap.size ≠ w.heap.size + 1 := by omega
  have t1_1_1 : w.heap.size + 1 < w1.heap.size + 1 := by omega
  have t1_1_2 : w.heap.size + 1 < w1.heap.size + 1 + 1 := by omega
  have t1_1_3 : w.heap.size + 1 < w1.heap.size + 1 + 1 + 1 := by omega
  have t1_1_4 : w.heap.size + 1 < w1.heap.size + 1 + 1 + 1 + 1 := by omega
  have t1_1_5 : w.heap.size + 1 < w1.heap.size + 1 + 1 + 1 + 1 + 1 := by omega
  have t1_1_6 : w.heap.size + 1 < w1.heap.size + 1 + 1 + 1 + 1 + 1 + 1 := by omega
  have b1 : w.heap.size ≤ w1.heap.size := by omega
  clear hbw1
  go_wp2_with ((go_at_call 47; ((with_reducible refine (many_any A P.length cap _ false hx hl).mono ?_)); rintro e w' ⟨rfl, rfl⟩))
  go_ret
  exact ⟨rfl, (by (repeat (first | (with_reducible refine Below.drew ?_) | (with_reducible refine below_drewN ?_ _) | (with_reducible refine Below.alloc ?_ (by first | omega | (simp; done) | (simp; omega) | (simp at *; omega)) _) | (with_reducible refine Below.setCell ?_ (by first | omega | (simp; done) | (simp; omega) | (simp at *; omega)) _) | (with_reducible exact Below.refl _ _) | (with_reducible assumption) | (with_reducible refine Below.trans ?_ (Below.mono (by assumption) (by first | omega | (simp; done) | (simp; omega) | (simp at *; omega)))))))⟩
set_option maxRecDepth 100000 in
set_option maxHeartbeats 4000000 in
theorem plaw_g (P : List Gs) (A : Option Addr) (cap : Nat) (o h s a b lo hi : Int) (w : World) (m : Int) (hm : w.cell? ⟨1, 0, none⟩ = some (.int .i64 m)) (hl : P.length ≤ 9223372036854775807) (hx : Hid (decide (P.length ≤ 11) = true)) (hl1 : P.length ≤ 1000000) (hA : A = none → cap = 0) (HS : Hid (SlAt w A P)) (c : Int) (hE : Hid (gapE P s a b lo hi = c)) (hn : Hid (c ≠ 0)) (hc1 : (c != 0) = true) (hc2 : (c == 0) = false) (hg : Hid (gasesE P = c)) :
    Calls Tryd.prog 13 #[.slice A P.length cap, .agg #[.int .i64 o, .int .i64 h, .int .i64 s, .int .i64 a, .int .i64 b], .agg #[.int .i64 lo, .int .i64 hi]] w fun e w' => e = .returned (.bool true) ∧ Below w.heap.size w w' := by
  have hlm := World.block_lt_of_cell? _ _ hm
  have hne : w.heap.size ≠ 1 := by simp at hlm; omega
  have hl2 : 1 < w.heap.size := by simpa using hlm
  clear hlm
  have HA := Lib.hid hA
  clear hA
  go_enter Tryd.func13, Tryd.ntmps13
  go_wp2_with fail
  refine (awake_any _ m (by exact oldCell3 (by (repeat (first | (with_reducible refine Below.drew ?_) | (with_reducible refine below_drewN ?_ _) | (with_reducible refine Below.alloc ?_ (by first | omega | (simp; done) | (simp; omega) | (simp at *; omega)) _) | (with_reducible refine Below.setCell ?_ (by first | omega | (simp; done) | (simp; omega) | (simp at *; omega)) _) | (with_reducible exact Below.refl _ _) | (with_reducible assumption) | (with_reducible refine Below.trans ?_ (Below.mono (by assumption) (by first | omega | (simp; done) | (simp; omega) | (simp at *; omega))))))) hm)).mono ?_
  rintro e w1 ⟨rfl, hbw1⟩
  have z1 := hbw1.size
  try simp at z1
  have c1_0 : w1.cell? ⟨w.heap.size, 0, none⟩ = some (.int .i64 o) := by rw [(bcell hbw1).1 _ _ (by first | (simp; done) | (simp; omega) | omega)]; simp [go_sem, World.cell?_alloc_past, *]
  have c1_1 : w1.cell? ⟨w.heap.size, 1, none⟩ = some (.int .i64 h) := by rw [(bcell hbw1).1 _ _ (by first | (simp; done) | (simp; omega) | omega)]; simp [go_sem, World.cell?_alloc_past, *]
  have c1_2 : w1.cell? ⟨w.heap.size, 2, none⟩ = some (.int .i64 s) := by rw [(bcell hbw1).1 _ _ (by first | (simp; done) | (simp; omega) | omega)]; simp [go_sem, World.cell?_alloc_past, *]
  have c1_3 : w1.cell? ⟨w.heap.size, 3, none⟩ = some (.int .i64 a) := by rw [(bcell hbw1).1 _ _ (by first | (simp; done) | (simp; omega) | omega)]; simp [go_sem, World.cell?_alloc_past, *]
  have c1_4 : w1.cell? ⟨w.heap.size, 4, none⟩ = some (.int .i64 b) := by rw [(bcell hbw1).1 _ _ (by first | (simp; done) | (simp; omega) | omega)]; simp [go_sem, World.cell?_alloc_past, *]
  have c1_5 : w1.cell? ⟨w.heap.size + 1, 0, none⟩ = some (.int .i64 lo) := by rw [(bcell hbw1).1 _ _ (by first | (simp; done) | (simp; omega) | omega)]; simp [go_sem, World.cell?_alloc_past, *]
  have c1_6 : w1.cell? ⟨w.heap.size + 1, 1, none⟩ = some (.int .i64 hi) := by rw [(bcell hbw1).1 _ _ (by first | (simp; done) | (simp; omega) | omega)]; simp [go_sem, World.cell?_alloc_past, *]
  have hB1 : Below w.heap.size w w1 := (by (repeat (first | (with_reducible refine Below.drew ?_) | (with_reducible refine below_drewN ?_ _) | (with_reducible refine Below.alloc ?_ (by first | omega | (simp; done) | (simp; omega) | (simp at *; omega)) _) | (with_reducible refine Below.setCell ?_ (by first | omega | (simp; done) | (simp; omega) | (simp at *; omega)) _) | (with_reducible exact Below.refl _ _) | (with_reducible assumption) | (with_reducible refine Below.trans ?_ (Below.mono (by assumption) (by first | omega | (simp; done) | (simp; omega) | (simp at *; omega)))))))
  have o1_0 : w.heap.size < w1.heap.size := by omega
  have n1_0 : w1.heap.size ≠ w.heap.size := by omega
  have t1_0_1 : w.heap.size < w1.heap.size + 1 := by omega
  have t1_0_2 : w.heap.size < w1.heap.size + 1 + 1 := by omega
  have t1_0_3 : w.heap.size < w1.heap.size + 1 + 1 + 1 := by omega
  have t1_0_4 : w.heap.size < w1.heap.size + 1 + 1 + 1 + 1 := by omega
  have t1_0_5 : w.heap.size < w1.heap.size + 1 + 1 + 1 + 1 + 1 := by omega
  have t1_0_6 : w.heap.size < w1.heap.size + 1 + 1 + 1 + 1 + 1 + 1 := by omega
  have o1_1 : w.heap.size + 1 < w1.heap.size := by omega
  have n1_1 : w1.heap.size ≠ w.heap.size + 1 := by omega
  have t1_1_1 : w.heap.size + 1 < w1.heap.size + 1 := by omega
  have t1_1_2 : w.heap.size + 1 < w1.heap.size + 1 + 1 := by omega
  have t1_1_3 : w.heap.size + 1 < w1.heap.size + 1 + 1 + 1 := by omega
  have t1_1_4 : w.heap.size + 1 < w1.heap.size + 1 + 1 + 1 + 1 := by omega
  have t1_1_5 : w.heap.size + 1 < w1.heap.size + 1 + 1 + 1 + 1 + 1 := by omega
  have t1_1_6 : w.heap.size + 1 < w1.heap.size + 1 + 1 + 1 + 1 + 1 + 1 := by omega
  have b1 : w.heap.size ≤ w1.heap.size := by omega
  clear hbw1
  go_wp2_with ((go_at_call 47; ((with_reducible refine (many_any A P.length cap _ true hx hl).mono ?_)); rintro e w' ⟨rfl, rfl⟩))
  refine wp_region_held_drew (S := (fun w' => w'.cell? ⟨w.heap.size, 0, none⟩ = some (.int .i64 o) ∧ w'.cell? ⟨w.heap.size, 1, none⟩ = some (.int .i64 h) ∧ w'.cell? ⟨w.heap.size, 2, none⟩ = some (.int .i64 s) ∧ w'.cell? ⟨w.heap.size, 3, none⟩ = some (.int .i64 a) ∧ w'.cell? ⟨w.heap.size, 4, none⟩ = some (.int .i64 b) ∧ w'.cell? ⟨w.heap.size + 1, 0, none⟩ = some (.int .i64 lo) ∧ w'.cell? ⟨w.heap.size + 1, 1, none⟩ = some (.int .i64 hi))) (by kernel_rfl) (by simp [go_sem, World.cell?_alloc_past, *]) (fun hHeld => ?_)
  refine wpAnyH_take (i := 0) (oi := ⟨some 17, _, _, _, _, _⟩) (v := ?_) rfl (by kernel_rfl) (by kernel_rfl) (by kernel_rfl) (fun _ _ _ h => h) (Or.inl ⟨by kernel_rfl, ?_⟩) (by assumption) ?_
  rotate_left
  · (intro w hSw; (try dsimp only at hSw); go_simp; all_goals with_reducible rfl)
  try simp only [Act.put, List.setIfInBounds_toArray, List.set_cons_zero, List.set_cons_succ]
  refine wpAnyH_take (i := 2) (oi := ⟨some 19, _, _, _, _, _⟩) (v := ?_) rfl (by kernel_rfl) (by kernel_rfl) (by kernel_rfl) (fun _ _ _ h => h) (Or.inl ⟨by kernel_rfl, ?_⟩) (by assumption) ?_
  rotate_left
  · (intro w hSw; (try dsimp only at hSw); go_simp; all_goals with_reducible rfl)
  try simp only [Act.put, List.setIfInBounds_toArray, List.set_cons_zero, List.set_cons_succ]
  refine wpAnyH_take (i := 3) (oi := ⟨some 20, _, _, _, _, _⟩) (v := ?_) rfl (by kernel_rfl) (by kernel_rfl) (by kernel_rfl) (fun _ _ _ h => h) (Or.inl ⟨by kernel_rfl, ?_⟩) (by assumption) ?_
  rotate_left
  · (intro w hSw; (try dsimp only at hSw); go_simp; all_goals with_reducible rfl)
  try simp only [Act.put, List.setIfInBounds_toArray, List.set_cons_zero, List.set_cons_succ]
  refine wpAnyH_take (i := 4) (oi := ⟨some 21, _, _, _, _, _⟩) (v := ?_) rfl (by kernel_rfl) (by kernel_rfl) (by kernel_rfl) (fun _ _ _ h => h) (Or.inl ⟨by kernel_rfl, ?_⟩) (by assumption) ?_
  rotate_left
  · (intro w hSw; (try dsimp only at hSw); go_simp; all_goals with_reducible rfl)
  try simp only [Act.put, List.setIfInBounds_toArray, List.set_cons_zero, List.set_cons_succ]
  refine wpAnyH_take (i := 5) (oi := ⟨some 22, _, _, _, _, _⟩) (v := ?_) rfl (by kernel_rfl) (by kernel_rfl) (by kernel_rfl) (fun _ _ _ h => h) (Or.inl ⟨by kernel_rfl, ?_⟩) (by assumption) ?_
  rotate_left
  · (intro w hSw; (try dsimp only at hSw); go_simp; all_goals with_reducible rfl)
  try simp only [Act.put, List.setIfInBounds_toArray, List.set_cons_zero, List.set_cons_succ]
  refine wpAnyH_take (i := 6) (oi := ⟨some 23, _, _, _, _, _⟩) (v := ?_) rfl (by kernel_rfl) (by kernel_rfl) (by kernel_rfl) (fun _ _ _ h => h) (Or.inl ⟨by kernel_rfl, ?_⟩) (by assumption) ?_
  rotate_left
  · (intro w hSw; (try dsimp only at hSw); go_simp; all_goals with_reducible rfl)
  try simp only [Act.put, List.setIfInBounds_toArray, List.set_cons_zero, List.set_cons_succ]
  refine wpAnyH_ready (rs := [1]) (by kernel_rfl) (by simp) ?_
  refine AllReadyH.cons rfl (fun K hK => ?_) AllReadyH.nil
  go_simp
  go_at_call 48
  ((with_reducible refine (CopyGases_any P A cap _ hl1 HA.out (by exact HS.out.below (by (repeat (first | (with_reducible refine Below.drew ?_) | (with_reducible refine below_drewN ?_ _) | (with_reducible refine Below.alloc ?_ (by first | omega | (simp; done) | (simp; omega) | (simp at *; omega)) _) | (with_reducible refine Below.setCell ?_ (by first | omega | (simp; done) | (simp; omega) | (simp at *; omega)) _) | (with_reducible exact Below.refl _ _) | (with_reducible assumption) | (with_reducible refine Below.trans ?_ (Below.mono (by assumption) (by first | omega | (simp; done) | (simp; omega) | (simp at *; omega))))))))).mono ?_))
  rintro e wA ⟨A', cap', rfl, hSl, hbwA⟩
  have zA := hbwA.size
  (try simp at zA)
  have x0 : wA.cell? ⟨w.heap.size, 0, none⟩ = some (.int .i64 o) := (by rw [(bcell hbwA).1 _ _ (by first | (simp; done) | (simp; omega) | omega)]; simp [go_sem, World.cell?_alloc_past, *])
  have x1 : wA.cell? ⟨w.heap.size, 1, none⟩ = some (.int .i64 h) := (by rw [(bcell hbwA).1 _ _ (by first | (simp; done) | (simp; omega) | omega)]; simp [go_sem, World.cell?_alloc_past, *])
  have x2 : wA.cell? ⟨w.heap.size, 2, none⟩ = some (.int .i64 s) := (by rw [(bcell hbwA).1 _ _ (by first | (simp; done) | (simp; omega) | omega)]; simp [go_sem, World.cell?_alloc_past, *])
  have x3 : wA.cell? ⟨w.heap.size, 3, none⟩ = some (.int .i64 a) := (by rw [(bcell hbwA).1 _ _ (by first | (simp; done) | (simp; omega) | omega)]; simp [go_sem, World.cell?_alloc_past, *])
  have x4 : wA.cell? ⟨w.heap.size, 4, none⟩ = some (.int .i64 b) := (by rw [(bcell hbwA).1 _ _ (by first | (simp; done) | (simp; omega) | omega)]; simp [go_sem, World.cell?_alloc_past, *])
  have x5 : wA.cell? ⟨w.heap.size + 1, 0, none⟩ = some (.int .i64 lo) := (by rw [(bcell hbwA).1 _ _ (by first | (simp; done) | (simp; omega) | omega)]; simp [go_sem, World.cell?_alloc_past, *])
  have x6 : wA.cell? ⟨w.heap.size + 1, 1, none⟩ = some (.int .i64 hi) := (by rw [(bcell hbwA).1 _ _ (by first | (simp; done) | (simp; omega) | omega)]; simp [go_sem, World.cell?_alloc_past, *])
  have hBA : Below w.heap.size w wA := (by (repeat (first | (with_reducible refine Below.drew ?_) | (with_reducible refine below_drewN ?_ _) | (with_reducible refine Below.alloc ?_ (by first | omega | (simp; done) | (simp; omega) | (simp at *; omega)) _) | (with_reducible refine Below.setCell ?_ (by first | omega | (simp; done) | (simp; omega) | (simp at *; omega)) _) | (with_reducible exact Below.refl _ _) | (with_reducible assumption) | (with_reducible refine Below.trans ?_ (Below.mono (by assumption) (by first | omega | (simp; done) | (simp; omega) | (simp at *; omega)))))))
  have HSl := Lib.hid hSl
  clear hSl
  go_wp2_with fail
  refine hK.out _ _ (by simp [go_sem, World.cell?_alloc_past, *]) (fun hHeld => ?_)
  clear hK K
  try simp only [Act.put, List.setIfInBounds_toArray, List.set_cons_zero, List.set_cons_succ]
  refine wpAnyH_ready (rs := [7]) (by kernel_rfl) (by simp) ?_
  refine AllReadyH.cons rfl (fun K hK => ?_) AllReadyH.nil
  go_simp
  go_at_call 51
  ((with_reducible refine (FirstGap_bad P A' cap' s a b lo hi c _ hl1 (by exact HSl.out.below (by (repeat (first | (with_reducible refine Below.drew ?_) | (with_reducible refine below_drewN ?_ _) | (with_reducible refine Below.alloc ?_ (by first | omega | (simp; done) | (simp; omega) | (simp at *; omega)) _) | (with_reducible refine Below.setCell ?_ (by first | omega | (simp; done) | (simp; omega) | (simp at *; omega)) _) | (with_reducible exact Below.refl _ _) | (with_reducible assumption) | (with_reducible refine Below.trans ?_ (Below.mono (by assumption) (by first | omega | (simp; done) | (simp; omega) | (simp at *; omega)))))))) hE hn).mono ?_))
  rintro e wB ⟨rfl, hbwB⟩
  have zB := hbwB.size
  (try simp at zB)
  have y0 : wB.cell? ⟨w.heap.size, 0, none⟩ = some (.int .i64 o) := (by rw [(bcell hbwB).1 _ _ (by first | (simp; done) | (simp; omega) | omega)]; simp [go_sem, World.cell?_alloc_past, *])
  have y1 : wB.cell? ⟨w.heap.size, 1, none⟩ = some (.int .i64 h) := (by rw [(bcell hbwB).1 _ _ (by first | (simp; done) | (simp; omega) | omega)]; simp [go_sem, World.cell?_alloc_past, *])
  have y2 : wB.cell? ⟨w.heap.size, 2, none⟩ = some (.int .i64 s) := (by rw [(bcell hbwB).1 _ _ (by first | (simp; done) | (simp; omega) | omega)]; simp [go_sem, World.cell?_alloc_past, *])
  have y3 : wB.cell? ⟨w.heap.size, 3, none⟩ = some (.int .i64 a) := (by rw [(bcell hbwB).1 _ _ (by first | (simp; done) | (simp; omega) | omega)]; simp [go_sem, World.cell?_alloc_past, *])
  have y4 : wB.cell? ⟨w.heap.size, 4, none⟩ = some (.int .i64 b) := (by rw [(bcell hbwB).1 _ _ (by first | (simp; done) | (simp; omega) | omega)]; simp [go_sem, World.cell?_alloc_past, *])
  have y5 : wB.cell? ⟨w.heap.size + 1, 0, none⟩ = some (.int .i64 lo) := (by rw [(bcell hbwB).1 _ _ (by first | (simp; done) | (simp; omega) | omega)]; simp [go_sem, World.cell?_alloc_past, *])
  have y6 : wB.cell? ⟨w.heap.size + 1, 1, none⟩ = some (.int .i64 hi) := (by rw [(bcell hbwB).1 _ _ (by first | (simp; done) | (simp; omega) | omega)]; simp [go_sem, World.cell?_alloc_past, *])
  have hBB : Below w.heap.size w wB := (by (repeat (first | (with_reducible refine Below.drew ?_) | (with_reducible refine below_drewN ?_ _) | (with_reducible refine Below.alloc ?_ (by first | omega | (simp; done) | (simp; omega) | (simp at *; omega)) _) | (with_reducible refine Below.setCell ?_ (by first | omega | (simp; done) | (simp; omega) | (simp at *; omega)) _) | (with_reducible exact Below.refl _ _) | (with_reducible assumption) | (with_reducible refine Below.trans ?_ (Below.mono (by assumption) (by first | omega | (simp; done) | (simp; omega) | (simp at *; omega)))))))
  go_wp2_with fail
  refine hK.out _ _ (by simp [go_sem, World.cell?_alloc_past, *]) (fun hHeld => ?_)
  clear hK K
  try simp only [Act.put, List.setIfInBounds_toArray, List.set_cons_zero, List.set_cons_succ]
  refine wpAnyH_take (i := 8) (oi := ⟨some 16, _, _, _, _, _⟩) (v := ?_) rfl (by kernel_rfl) (by kernel_rfl) (by kernel_rfl) (fun _ _ _ h => h) (Or.inl ⟨by kernel_rfl, ?_⟩) (by assumption) ?_
  rotate_left
  · (intro w hSw; (try dsimp only at hSw); go_simp; all_goals with_reducible rfl)
  try simp only [Act.put, List.setIfInBounds_toArray, List.set_cons_zero, List.set_cons_succ]
  refine wpAnyH_take (i := 9) (oi := ⟨some 25, _, _, _, _, _⟩) (v := ?_) rfl (by kernel_rfl) (by kernel_rfl) (by kernel_rfl) (fun _ _ _ h => h) (Or.inl ⟨by kernel_rfl, ?_⟩) (by assumption) ?_
  rotate_left
  · (intro w hSw; (try dsimp only at hSw); go_simp; all_goals with_reducible rfl)
  try simp only [Act.put, List.setIfInBounds_toArray, List.set_cons_zero, List.set_cons_succ]
  refine wpAnyH_take (i := 10) (oi := ⟨some 26, _, _, _, _, _⟩) (v := ?_) rfl (by kernel_rfl) (by kernel_rfl) (by kernel_rfl) (fun _ _ _ h => h) (Or.inl ⟨by kernel_rfl, ?_⟩) (by assumption) ?_
  rotate_left
  · (intro w hSw; (try dsimp only at hSw); go_simp; all_goals with_reducible rfl)
  try simp only [Act.put, List.setIfInBounds_toArray, List.set_cons_zero, List.set_cons_succ]
  refine wpAnyH_take (i := 11) (oi := ⟨some 7, _, _, _, _, _⟩) (v := ?_) rfl (by kernel_rfl) (by kernel_rfl) (by kernel_rfl) (fun _ _ _ h => h) (Or.inl ⟨by kernel_rfl, ?_⟩) (by assumption) ?_
  rotate_left
  · (intro w hSw; (try dsimp only at hSw); go_simp; all_goals with_reducible rfl)
  try simp only [Act.put, List.setIfInBounds_toArray, List.set_cons_zero, List.set_cons_succ]
  refine wpAnyH_take (i := 12) (oi := ⟨some 8, _, _, _, _, _⟩) (v := ?_) rfl (by kernel_rfl) (by kernel_rfl) (by kernel_rfl) (fun _ _ _ h => h) (Or.inl ⟨by kernel_rfl, ?_⟩) (by assumption) ?_
  rotate_left
  · (intro w hSw; (try dsimp only at hSw); go_simp; all_goals with_reducible rfl)
  try simp only [Act.put, List.setIfInBounds_toArray, List.set_cons_zero, List.set_cons_succ]
  refine wpAnyH_done (by kernel_rfl) ?_ _
  clear c1_0 c1_1 c1_2 c1_3 c1_4 c1_5 c1_6 o1_0 n1_0 t1_0_1 t1_0_2 t1_0_3 t1_0_4 t1_0_5 t1_0_6 o1_1 n1_1 t1_1_1 t1_1_2 t1_1_3 t1_1_4 t1_1_5 t1_1_6 hbwA hbwB x0 x1 x2 x3 x4 x5 x6
  have hsB := hBB.size
  have o2_0 : w.heap.size < wB.heap.size := by omega
  have n2_0 : wB.heap.size ≠ w.heap.size := by omega
  have t2_0_1 : w.heap.size < wB.heap.size + 1 := by omega
  have t2_0_2 : w.heap.size < wB.heap.size + 1 + 1 := by omega
  have t2_0_3 : w.heap.size < wB.heap.size + 1 + 1 + 1 := by omega
  have t2_0_4 : w.heap.size < wB.heap.size + 1 + 1 + 1 + 1 := by omega
  have t2_0_5 : w.heap.size < wB.heap.size + 1 + 1 + 1 + 1 + 1 := by omega
  have t2_0_6 : w.heap.size < wB.heap.size + 1 + 1 + 1 + 1 + 1 + 1 := by omega
  have o2_1 : w.heap.size + 1 < wB.heap.size := by omega
  have n2_1 : wB.heap.size ≠ w.heap.size + 1 := by omega
  have t2_1_1 : w.heap.size + 1 < wB.heap.size + 1 := by omega
  have t2_1_2 : w.heap.size + 1 < wB.heap.size + 1 + 1 := by omega
  have t2_1_3 : w.heap.size + 1 < wB.heap.size + 1 + 1 + 1 := by omega
  have t2_1_4 : w.heap.size + 1 < wB.heap.size + 1 + 1 + 1 + 1 := by omega
  have t2_1_5 : w.heap.size + 1 < wB.heap.size + 1 + 1 + 1 + 1 + 1 := by omega
  have t2_1_6 : w.heap.size + 1 < wB.heap.size + 1 + 1 + 1 + 1 + 1 + 1 := by omega
  have b2 : w.heap.size ≤ wB.heap.size := by omega
  go_wp2_with fail
  refine (refCheckGases_is P A cap c _ hl1 (by exact HS.out.below (by (repeat (first | (with_reducible refine Below.drew ?_) | (with_reducible refine below_drewN ?_ _) | (with_reducible refine Below.alloc ?_ (by first | omega | (simp; done) | (simp; omega) | (simp at *; omega)) _) | (with_reducible refine Below.setCell ?_ (by first | omega | (simp; done) | (simp; omega) | (simp at *; omega)) _) | (with_reducible exact Below.refl _ _) | (with_reducible assumption) | (with_reducible refine Below.trans ?_ (Below.mono (by assumption) (by first | omega | (simp; done) | (simp; omega) | (simp at *; omega)))))))) hg).mono ?_
  rintro e w3 ⟨rfl, hbw3⟩
  have z3 := hbw3.size
  try simp at z3
  have c3_0 : w3.cell? ⟨w.heap.size, 0, none⟩ = some (.int .i64 o) := by rw [(bcell hbw3).1 _ _ (by first | (simp; done) | (simp; omega) | omega)]; simp [go_sem, World.cell?_alloc_past, *]
  have c3_1 : w3.cell? ⟨w.heap.size, 1, none⟩ = some (.int .i64 h) := by rw [(bcell hbw3).1 _ _ (by first | (simp; done) | (simp; omega) | omega)]; simp [go_sem, World.cell?_alloc_past, *]
  have c3_2 : w3.cell? ⟨w.heap.size, 2, none⟩ = some (.int .i64 s) := by rw [(bcell hbw3).1 _ _ (by first | (simp; done) | (simp; omega) | omega)]; simp [go_sem, World.cell?_alloc_past, *]
  have c3_3 : w3.cell? ⟨w.heap.size, 3, none⟩ = some (.int .i64 a) := by rw [(bcell hbw3).1 _ _ (by first | (simp; done) | (simp; omega) | omega)]; simp [go_sem, World.cell?_alloc_past, *]
  have c3_4 : w3.cell? ⟨w.heap.size, 4, none⟩ = some (.int .i64 b) := by rw [(bcell hbw3).1 _ _ (by first | (simp; done) | (simp; omega) | omega)]; simp [go_sem, World.cell?_alloc_past, *]
  have c3_5 : w3.cell? ⟨w.heap.size + 1, 0, none⟩ = some (.int .i64 lo) := by rw [(bcell hbw3).1 _ _ (by first | (simp; done) | (simp; omega) | omega)]; simp [go_sem, World.cell?_alloc_past, *]
  have c3_6 : w3.cell? ⟨w.heap.size + 1, 1, none⟩ = some (.int .i64 hi) := by rw [(bcell hbw3).1 _ _ (by first | (simp; done) | (simp; omega) | omega)]; simp [go_sem, World.cell?_alloc_past, *]
  have hB3 : Below w.heap.size w w3 := (by (repeat (first | (with_reducible refine Below.drew ?_) | (with_reducible refine below_drewN ?_ _) | (with_reducible refine Below.alloc ?_ (by first | omega | (simp; done) | (simp; omega) | (simp at *; omega)) _) | (with_reducible refine Below.setCell ?_ (by first | omega | (simp; done) | (simp; omega) | (simp at *; omega)) _) | (with_reducible exact Below.refl _ _) | (with_reducible assumption) | (with_reducible refine Below.trans ?_ (Below.mono (by assumption) (by first | omega | (simp; done) | (simp; omega) | (simp at *; omega)))))))
  clear y0 y1 y2 y3 y4 y5 y6 o2_0 n2_0 t2_0_1 t2_0_2 t2_0_3 t2_0_4 t2_0_5 t2_0_6 o2_1 n2_1 t2_1_1 t2_1_2 t2_1_3 t2_1_4 t2_1_5 t2_1_6
  have o3_0 : w.heap.size < w3.heap.size := by omega
  have n3_0 : w3.heap.size ≠ w.heap.size := by omega
  have t3_0_1 : w.heap.size < w3.heap.size + 1 := by omega
  have t3_0_2 : w.heap.size < w3.heap.size + 1 + 1 := by omega
  have t3_0_3 : w.heap.size < w3.heap.size + 1 + 1 + 1 := by omega
  have t3_0_4 : w.heap.size < w3.heap.size + 1 + 1 + 1 + 1 := by omega
  have t3_0_5 : w.heap.size < w3.heap.size + 1 + 1 + 1 + 1 + 1 := by omega
  have t3_0_6 : w.heap.size < w3.heap.size + 1 + 1 + 1 + 1 + 1 + 1 := by omega
  have o3_1 : w.heap.size + 1 < w3.heap.size := by omega
  have n3_1 : w3.heap.size ≠ w.heap.size + 1 := by omega
  have t3_1_1 : w.heap.size + 1 < w3.heap.size + 1 := by omega
  have t3_1_2 : w.heap.size + 1 < w3.heap.size + 1 + 1 := by omega
  have t3_1_3 : w.heap.size + 1 < w3.heap.size + 1 + 1 + 1 := by omega
  have t3_1_4 : w.heap.size + 1 < w3.heap.size + 1 + 1 + 1 + 1 := by omega
  have t3_1_5 : w.heap.size + 1 < w3.heap.size + 1 + 1 + 1 + 1 + 1 := by omega
  have t3_1_6 : w.heap.size + 1 < w3.heap.size + 1 + 1 + 1 + 1 + 1 + 1 := by omega
  have b3 : w.heap.size ≤ w3.heap.size := by omega
  clear hbw3
  go_wp2_with fail
  go_ret
  exact ⟨by first | rfl | (simp; done) | (apply ret_bool; simp; omega), (by (repeat (first | (with_reducible refine Below.drew ?_) | (with_reducible refine below_drewN ?_ _) | (with_reducible refine Below.alloc ?_ (by first | omega | (simp; done) | (simp; omega) | (simp at *; omega)) _) | (with_reducible refine Below.setCell ?_ (by first | omega | (simp; done) | (simp; omega) | (simp at *; omega)) _) | (with_reducible exact Below.refl _ _) | (with_reducible assumption) | (with_reducible refine Below.trans ?_ (Below.mono (by assumption) (by first | omega | (simp; done) | (simp; omega) | (simp at *; omega)))))))⟩
set_option maxRecDepth 100000 in
set_option maxHeartbeats 4000000 in
theorem plaw_s (P : List Gs) (A : Option Addr) (cap : Nat) (o h s a b lo hi : Int) (w : World) (m : Int) (hm : w.cell? ⟨1, 0, none⟩ = some (.int .i64 m)) (hl : P.length ≤ 9223372036854775807) (hx : Hid (decide (P.length ≤ 11) = true)) (hl1 : P.length ≤ 1000000) (hA : A = none → cap = 0) (HS : Hid (SlAt w A P)) (c : Int) (hE : Hid (gapE P s a b lo hi = c)) (hn : Hid (c ≠ 0)) (hc1 : (c != 0) = true) (hc2 : (c == 0) = false) (hg : Hid (gasesE P = 0)) (hs : Hid (plE s 0 = c)) :
    Calls Tryd.prog 13 #[.slice A P.length cap, .agg #[.int .i64 o, .int .i64 h, .int .i64 s, .int .i64 a, .int .i64 b], .agg #[.int .i64 lo, .int .i64 hi]] w fun e w' => e = .returned (.bool true) ∧ Below w.heap.size w w' := by
  have hlm := World.block_lt_of_cell? _ _ hm
  have hne : w.heap.size ≠ 1 := by simp at hlm; omega
  have hl2 : 1 < w.heap.size := by simpa using hlm
  clear hlm
  have HA := Lib.hid hA
  clear hA
  go_enter Tryd.func13, Tryd.ntmps13
  go_wp2_with fail
  refine (awake_any _ m (by exact oldCell3 (by (repeat (first | (with_reducible refine Below.drew ?_) | (with_reducible refine below_drewN ?_ _) | (with_reducible refine Below.alloc ?_ (by first | omega | (simp; done) | (simp; omega) | (simp at *; omega)) _) | (with_reducible refine Below.setCell ?_ (by first | omega | (simp; done) | (simp; omega) | (simp at *; omega)) _) | (with_reducible exact Below.refl _ _) | (with_reducible assumption) | (with_reducible refine Below.trans ?_ (Below.mono (by assumption) (by first | omega | (simp; done) | (simp; omega) | (simp at *; omega))))))) hm)).mono ?_
  rintro e w1 ⟨rfl, hbw1⟩
  have z1 := hbw1.size
  try simp at z1
  have c1_0 : w1.cell? ⟨w.heap.size, 0, none⟩ = some (.int .i64 o) := by rw [(bcell hbw1).1 _ _ (by first | (simp; done) | (simp; omega) | omega)]; simp [go_sem, World.cell?_alloc_past, *]
  have c1_1 : w1.cell? ⟨w.heap.size, 1, none⟩ = some (.int .i64 h) := by rw [(bcell hbw1).1 _ _ (by first | (simp; done) | (simp; omega) | omega)]; simp [go_sem, World.cell?_alloc_past, *]
  have c1_2 : w1.cell? ⟨w.heap.size, 2, none⟩ = some (.int .i64 s) := by rw [(bcell hbw1).1 _ _ (by first | (simp; done) | (simp; omega) | omega)]; simp [go_sem, World.cell?_alloc_past, *]
  have c1_3 : w1.cell? ⟨w.heap.size, 3, none⟩ = some (.int .i64 a) := by rw [(bcell hbw1).1 _ _ (by first | (simp; done) | (simp; omega) | omega)]; simp [go_sem, World.cell?_alloc_past, *]
  have c1_4 : w1.cell? ⟨w.heap.size, 4, none⟩ = some (.int .i64 b) := by rw [(bcell hbw1).1 _ _ (by first | (simp; done) | (simp; omega) | omega)]; simp [go_sem, World.cell?_alloc_past, *]
  have c1_5 : w1.cell? ⟨w.heap.size + 1, 0, none⟩ = some (.int .i64 lo) := by rw [(bcell hbw1).1 _ _ (by first | (simp; done) | (simp; omega) | omega)]; simp [go_sem, World.cell?_alloc_past, *]
  have c1_6 : w1.cell? ⟨w.heap.size + 1, 1, none⟩ = some (.int .i64 hi) := by rw [(bcell hbw1).1 _ _ (by first | (simp; done) | (simp; omega) | omega)]; simp [go_sem, World.cell?_alloc_past, *]
  have hB1 : Below w.heap.size w w1 := (by (repeat (first | (with_reducible refine Below.drew ?_) | (with_reducible refine below_drewN ?_ _) | (with_reducible refine Below.alloc ?_ (by first | omega | (simp; done) | (simp; omega) | (simp at *; omega)) _) | (with_reducible refine Below.setCell ?_ (by first | omega | (simp; done) | (simp; omega) | (simp at *; omega)) _) | (with_reducible exact Below.refl _ _) | (with_reducible assumption) | (with_reducible refine Below.trans ?_ (Below.mono (by assumption) (by first | omega | (simp; done) | (simp; omega) | (simp at *; omega)))))))
  have o1_0 : w.heap.size < w1.heap.size := by omega
  have n1_0 : w1.heap.size ≠ w.heap.size := by omega
  have t1_0_1 : w.heap.size < w1.heap.size + 1 := by omega
  have t1_0_2 : w.heap.size < w1.heap.size + 1 + 1 := by omega
  have t1_0_3 : w.heap.size < w1.heap.size + 1 + 1 + 1 := by omega
  have t1_0_4 : w.heap.size < w1.heap.size + 1 + 1 + 1 + 1 := by omega
  have t1_0_5 : w.heap.size < w1.heap.size + 1 + 1 + 1 + 1 + 1 := by omega
  have t1_0_6 : w.heap.size < w1.heap.size + 1 + 1 + 1 + 1 + 1 + 1 := by omega
  have o1_1 : w.heap.size + 1 < w1.heap.size := by omega
  have n1_1 : w1.heap.size ≠ w.heap.size + 1 := by omega
  have t1_1_1 : w.heap.size + 1 < w1.heap.size + 1 := by omega
  have t1_1_2 : w.heap.size + 1 < w1.heap.size + 1 + 1 := by omega
  have t1_1_3 : w.heap.size + 1 < w1.heap.size + 1 + 1 + 1 := by omega
  have t1_1_4 : w.heap.size + 1 < w1.heap.size + 1 + 1 + 1 + 1 := by omega
  have t1_1_5 : w.heap.size + 1 < w1.heap.size + 1 + 1 + 1 + 1 + 1 := by omega
  have t1_1_6 : w.heap.size + 1 < w1.heap.size + 1 + 1 + 1 + 1 + 1 + 1 := by omega
  have b1 : w.heap.size ≤ w1.heap.size := by omega
  clear hbw1
  go_wp2_with ((go_at_call 47; ((with_reducible refine (many_any A P.length cap _ true hx hl).mono ?_)); rintro e w' ⟨rfl, rfl⟩))
  refine wp_region_held_drew (S := (fun w' => w'.cell? ⟨w.heap.size, 0, none⟩ = some (.int .i64 o) ∧ w'.cell? ⟨w.heap.size, 1, none⟩ = some (.int .i64 h) ∧ w'.cell? ⟨w.heap.size, 2, none⟩ = some (.int .i64 s) ∧ w'.cell? ⟨w.heap.size, 3, none⟩ = some (.int .i64 a) ∧ w'.cell? ⟨w.heap.size, 4, none⟩ = some (.int .i64 b) ∧ w'.cell? ⟨w.heap.size + 1, 0, none⟩ = some (.int .i64 lo) ∧ w'.cell? ⟨w.heap.size + 1, 1, none⟩ = some (.int .i64 hi))) (by kernel_rfl) (by simp [go_sem, World.cell?_alloc_past, *]) (fun hHeld => ?_)
  refine wpAnyH_take (i := 0) (oi := ⟨some 17, _, _, _, _, _⟩) (v := ?_) rfl (by kernel_rfl) (by kernel_rfl) (by kernel_rfl) (fun _ _ _ h => h) (Or.inl ⟨by kernel_rfl, ?_⟩) (by assumption) ?_
  rotate_left
  · (intro w hSw; (try dsimp only at hSw); go_simp; all_goals with_reducible rfl)
  try simp only [Act.put, List.setIfInBounds_toArray, List.set_cons_zero, List.set_cons_succ]
  refine wpAnyH_take (i := 2) (oi := ⟨some 19, _, _, _, _, _⟩) (v := ?_) rfl (by kernel_rfl) (by kernel_rfl) (by kernel_rfl) (fun _ _ _ h => h) (Or.inl ⟨by kernel_rfl, ?_⟩) (by assumption) ?_
  rotate_left
  · (intro w hSw; (try dsimp only at hSw); go_simp; all_goals with_reducible rfl)
  try simp only [Act.put, List.setIfInBounds_toArray, List.set_cons_zero, List.set_cons_succ]
  refine wpAnyH_take (i := 3) (oi := ⟨some 20, _, _, _, _, _⟩) (v := ?_) rfl (by kernel_rfl) (by kernel_rfl) (by kernel_rfl) (fun _ _ _ h => h) (Or.inl ⟨by kernel_rfl, ?_⟩) (by assumption) ?_
  rotate_left
  · (intro w hSw; (try dsimp only at hSw); go_simp; all_goals with_reducible rfl)
  try simp only [Act.put, List.setIfInBounds_toArray, List.set_cons_zero, List.set_cons_succ]
  refine wpAnyH_take (i := 4) (oi := ⟨some 21, _, _, _, _, _⟩) (v := ?_) rfl (by kernel_rfl) (by kernel_rfl) (by kernel_rfl) (fun _ _ _ h => h) (Or.inl ⟨by kernel_rfl, ?_⟩) (by assumption) ?_
  rotate_left
  · (intro w hSw; (try dsimp only at hSw); go_simp; all_goals with_reducible rfl)
  try simp only [Act.put, List.setIfInBounds_toArray, List.set_cons_zero, List.set_cons_succ]
  refine wpAnyH_take (i := 5) (oi := ⟨some 22, _, _, _, _, _⟩) (v := ?_) rfl (by kernel_rfl) (by kernel_rfl) (by kernel_rfl) (fun _ _ _ h => h) (Or.inl ⟨by kernel_rfl, ?_⟩) (by assumption) ?_
  rotate_left
  · (intro w hSw; (try dsimp only at hSw); go_simp; all_goals with_reducible rfl)
  try simp only [Act.put, List.setIfInBounds_toArray, List.set_cons_zero, List.set_cons_succ]
  refine wpAnyH_take (i := 6) (oi := ⟨some 23, _, _, _, _, _⟩) (v := ?_) rfl (by kernel_rfl) (by kernel_rfl) (by kernel_rfl) (fun _ _ _ h => h) (Or.inl ⟨by kernel_rfl, ?_⟩) (by assumption) ?_
  rotate_left
  · (intro w hSw; (try dsimp only at hSw); go_simp; all_goals with_reducible rfl)
  try simp only [Act.put, List.setIfInBounds_toArray, List.set_cons_zero, List.set_cons_succ]
  refine wpAnyH_ready (rs := [1]) (by kernel_rfl) (by simp) ?_
  refine AllReadyH.cons rfl (fun K hK => ?_) AllReadyH.nil
  go_simp
  go_at_call 48
  ((with_reducible refine (CopyGases_any P A cap _ hl1 HA.out (by exact HS.out.below (by (repeat (first | (with_reducible refine Below.drew ?_) | (with_reducible refine below_drewN ?_ _) | (with_reducible refine Below.alloc ?_ (by first | omega | (simp; done) | (simp; omega) | (simp at *; omega)) _) | (with_reducible refine Below.setCell ?_ (by first | omega | (simp; done) | (simp; omega) | (simp at *; omega)) _) | (with_reducible exact Below.refl _ _) | (with_reducible assumption) | (with_reducible refine Below.trans ?_ (Below.mono (by assumption) (by first | omega | (simp; done) | (simp; omega) | (simp at *; omega))))))))).mono ?_))
  rintro e wA ⟨A', cap', rfl, hSl, hbwA⟩
  have zA := hbwA.size
  (try simp at zA)
  have x0 : wA.cell? ⟨w.heap.size, 0, none⟩ = some (.int .i64 o) := (by rw [(bcell hbwA).1 _ _ (by first | (simp; done) | (simp; omega) | omega)]; simp [go_sem, World.cell?_alloc_past, *])
  have x1 : wA.cell? ⟨w.heap.size, 1, none⟩ = some (.int .i64 h) := (by rw [(bcell hbwA).1 _ _ (by first | (simp; done) | (simp; omega) | omega)]; simp [go_sem, World.cell?_alloc_past, *])
  have x2 : wA.cell? ⟨w.heap.size, 2, none⟩ = some (.int .i64 s) := (by rw [(bcell hbwA).1 _ _ (by first | (simp; done) | (simp; omega) | omega)]; simp [go_sem, World.cell?_alloc_past, *])
  have x3 : wA.cell? ⟨w.heap.size, 3, none⟩ = some (.int .i64 a) := (by rw [(bcell hbwA).1 _ _ (by first | (simp; done) | (simp; omega) | omega)]; simp [go_sem, World.cell?_alloc_past, *])
  have x4 : wA.cell? ⟨w.heap.size, 4, none⟩ = some (.int .i64 b) := (by rw [(bcell hbwA).1 _ _ (by first | (simp; done) | (simp; omega) | omega)]; simp [go_sem, World.cell?_alloc_past, *])
  have x5 : wA.cell? ⟨w.heap.size + 1, 0, none⟩ = some (.int .i64 lo) := (by rw [(bcell hbwA).1 _ _ (by first | (simp; done) | (simp; omega) | omega)]; simp [go_sem, World.cell?_alloc_past, *])
  have x6 : wA.cell? ⟨w.heap.size + 1, 1, none⟩ = some (.int .i64 hi) := (by rw [(bcell hbwA).1 _ _ (by first | (simp; done) | (simp; omega) | omega)]; simp [go_sem, World.cell?_alloc_past, *])
  have hBA : Below w.heap.size w wA := (by (repeat (first | (with_reducible refine Below.drew ?_) | (with_reducible refine below_drewN ?_ _) | (with_reducible refine Below.alloc ?_ (by first | omega | (simp; done) | (simp; omega) | (simp at *; omega)) _) | (with_reducible refine Below.setCell ?_ (by first | omega | (simp; done) | (simp; omega) | (simp at *; omega)) _) | (with_reducible exact Below.refl _ _) | (with_reducible assumption) | (with_reducible refine Below.trans ?_ (Below.mono (by assumption) (by first | omega | (simp; done) | (simp; omega) | (simp at *; omega)))))))
  have HSl := Lib.hid hSl
  clear hSl
  go_wp2_with fail
  refine hK.out _ _ (by simp [go_sem, World.cell?_alloc_past, *]) (fun hHeld => ?_)
  clear hK K
  try simp only [Act.put, List.setIfInBounds_toArray, List.set_cons_zero, List.set_cons_succ]
  refine wpAnyH_ready (rs := [7]) (by kernel_rfl) (by simp) ?_
  refine AllReadyH.cons rfl (fun K hK => ?_) AllReadyH.nil
  go_simp
  go_at_call 51
  ((with_reducible refine (FirstGap_bad P A' cap' s a b lo hi c _ hl1 (by exact HSl.out.below (by (repeat (first | (with_reducible refine Below.drew ?_) | (with_reducible refine below_drewN ?_ _) | (with_reducible refine Below.alloc ?_ (by first | omega | (simp; done) | (simp; omega) | (simp at *; omega)) _) | (with_reducible refine Below.setCell ?_ (by first | omega | (simp; done) | (simp; omega) | (simp at *; omega)) _) | (with_reducible exact Below.refl _ _) | (with_reducible assumption) | (with_reducible refine Below.trans ?_ (Below.mono (by assumption) (by first | omega | (simp; done) | (simp; omega) | (simp at *; omega)))))))) hE hn).mono ?_))
  rintro e wB ⟨rfl, hbwB⟩
  have zB := hbwB.size
  (try simp at zB)
  have y0 : wB.cell? ⟨w.heap.size, 0, none⟩ = some (.int .i64 o) := (by rw [(bcell hbwB).1 _ _ (by first | (simp; done) | (simp; omega) | omega)]; simp [go_sem, World.cell?_alloc_past, *])
  have y1 : wB.cell? ⟨w.heap.size, 1, none⟩ = some (.int .i64 h) := (by rw [(bcell hbwB).1 _ _ (by first | (simp; done) | (simp; omega) | omega)]; simp [go_sem, World.cell?_alloc_past, *])
  have y2 : wB.cell? ⟨w.heap.size, 2, none⟩ = some (.int .i64 s) := (by rw [(bcell hbwB).1 _ _ (by first | (simp; done) | (simp; omega) | omega)]; simp [go_sem, World.cell?_alloc_past, *])
  have y3 : wB.cell? ⟨w.heap.size, 3, none⟩ = some (.int .i64 a) := (by rw [(bcell hbwB).1 _ _ (by first | (simp; done) | (simp; omega) | omega)]; simp [go_sem, World.cell?_alloc_past, *])
  have y4 : wB.cell? ⟨w.heap.size, 4, none⟩ = some (.int .i64 b) := (by rw [(bcell hbwB).1 _ _ (by first | (simp; done) | (simp; omega) | omega)]; simp [go_sem, World.cell?_alloc_past, *])
  have y5 : wB.cell? ⟨w.heap.size + 1, 0, none⟩ = some (.int .i64 lo) := (by rw [(bcell hbwB).1 _ _ (by first | (simp; done) | (simp; omega) | omega)]; simp [go_sem, World.cell?_alloc_past, *])
  have y6 : wB.cell? ⟨w.heap.size + 1, 1, none⟩ = some (.int .i64 hi) := (by rw [(bcell hbwB).1 _ _ (by first | (simp; done) | (simp; omega) | omega)]; simp [go_sem, World.cell?_alloc_past, *])
  have hBB : Below w.heap.size w wB := (by (repeat (first | (with_reducible refine Below.drew ?_) | (with_reducible refine below_drewN ?_ _) | (with_reducible refine Below.alloc ?_ (by first | omega | (simp; done) | (simp; omega) | (simp at *; omega)) _) | (with_reducible refine Below.setCell ?_ (by first | omega | (simp; done) | (simp; omega) | (simp at *; omega)) _) | (with_reducible exact Below.refl _ _) | (with_reducible assumption) | (with_reducible refine Below.trans ?_ (Below.mono (by assumption) (by first | omega | (simp; done) | (simp; omega) | (simp at *; omega)))))))
  go_wp2_with fail
  refine hK.out _ _ (by simp [go_sem, World.cell?_alloc_past, *]) (fun hHeld => ?_)
  clear hK K
  try simp only [Act.put, List.setIfInBounds_toArray, List.set_cons_zero, List.set_cons_succ]
  refine wpAnyH_take (i := 8) (oi := ⟨some 16, _, _, _, _, _⟩) (v := ?_) rfl (by kernel_rfl) (by kernel_rfl) (by kernel_rfl) (fun _ _ _ h => h) (Or.inl ⟨by kernel_rfl, ?_⟩) (by assumption) ?_
  rotate_left
  · (intro w hSw; (try dsimp only at hSw); go_simp; all_goals with_reducible rfl)
  try simp only [Act.put, List.setIfInBounds_toArray, List.set_cons_zero, List.set_cons_succ]
  refine wpAnyH_take (i := 9) (oi := ⟨some 25, _, _, _, _, _⟩) (v := ?_) rfl (by kernel_rfl) (by kernel_rfl) (by kernel_rfl) (fun _ _ _ h => h) (Or.inl ⟨by kernel_rfl, ?_⟩) (by assumption) ?_
  rotate_left
  · (intro w hSw; (try dsimp only at hSw); go_simp; all_goals with_reducible rfl)
  try simp only [Act.put, List.setIfInBounds_toArray, List.set_cons_zero, List.set_cons_succ]
  refine wpAnyH_take (i := 10) (oi := ⟨some 26, _, _, _, _, _⟩) (v := ?_) rfl (by kernel_rfl) (by kernel_rfl) (by kernel_rfl) (fun _ _ _ h => h) (Or.inl ⟨by kernel_rfl, ?_⟩) (by assumption) ?_
  rotate_left
  · (intro w hSw; (try dsimp only at hSw); go_simp; all_goals with_reducible rfl)
  try simp only [Act.put, List.setIfInBounds_toArray, List.set_cons_zero, List.set_cons_succ]
  refine wpAnyH_take (i := 11) (oi := ⟨some 7, _, _, _, _, _⟩) (v := ?_) rfl (by kernel_rfl) (by kernel_rfl) (by kernel_rfl) (fun _ _ _ h => h) (Or.inl ⟨by kernel_rfl, ?_⟩) (by assumption) ?_
  rotate_left
  · (intro w hSw; (try dsimp only at hSw); go_simp; all_goals with_reducible rfl)
  try simp only [Act.put, List.setIfInBounds_toArray, List.set_cons_zero, List.set_cons_succ]
  refine wpAnyH_take (i := 12) (oi := ⟨some 8, _, _, _, _, _⟩) (v := ?_) rfl (by kernel_rfl) (by kernel_rfl) (by kernel_rfl) (fun _ _ _ h => h) (Or.inl ⟨by kernel_rfl, ?_⟩) (by assumption) ?_
  rotate_left
  · (intro w hSw; (try dsimp only at hSw); go_simp; all_goals with_reducible rfl)
  try simp only [Act.put, List.setIfInBounds_toArray, List.set_cons_zero, List.set_cons_succ]
  refine wpAnyH_done (by kernel_rfl) ?_ _
  clear c1_0 c1_1 c1_2 c1_3 c1_4 c1_5 c1_6 o1_0 n1_0 t1_0_1 t1_0_2 t1_0_3 t1_0_4 t1_0_5 t1_0_6 o1_1 n1_1 t1_1_1 t1_1_2 t1_1_3 t1_1_4 t1_1_5 t1_1_6 hbwA hbwB x0 x1 x2 x3 x4 x5 x6
  have hsB := hBB.size
  have o2_0 : w.heap.size < wB.heap.size := by omega
  have n2_0 : wB.heap.size ≠ w.heap.size := by omega
  have t2_0_1 : w.heap.size < wB.heap.size + 1 := by omega
  have t2_0_2 : w.heap.size < wB.heap.size + 1 + 1 := by omega
  have t2_0_3 : w.heap.size < wB.heap.size + 1 + 1 + 1 := by omega
  have t2_0_4 : w.heap.size < wB.heap.size + 1 + 1 + 1 + 1 := by omega
  have t2_0_5 : w.heap.size < wB.heap.size + 1 + 1 + 1 + 1 + 1 := by omega
  have t2_0_6 : w.heap.size < wB.heap.size + 1 + 1 + 1 + 1 + 1 + 1 := by omega
  have o2_1 : w.heap.size + 1 < wB.heap.size := by omega
  have n2_1 : wB.heap.size ≠ w.heap.size + 1 := by omega
  have t2_1_1 : w.heap.size + 1 < wB.heap.size + 1 := by omega
  have t2_1_2 : w.heap.size + 1 < wB.heap.size + 1 + 1 := by omega
  have t2_1_3 : w.heap.size + 1 < wB.heap.size + 1 + 1 + 1 := by omega
  have t2_1_4 : w.heap.size + 1 < wB.heap.size + 1 + 1 + 1 + 1 := by omega
  have t2_1_5 : w.heap.size + 1 < wB.heap.size + 1 + 1 + 1 + 1 + 1 := by omega
  have t2_1_6 : w.heap.size + 1 < wB.heap.size + 1 + 1 + 1 + 1 + 1 + 1 := by omega
  have b2 : w.heap.size ≤ wB.heap.size := by omega
  go_wp2_with fail
  refine (refCheckGases_is P A cap 0 _ hl1 (by exact HS.out.below (by (repeat (first | (with_reducible refine Below.drew ?_) | (with_reducible refine below_drewN ?_ _) | (with_reducible refine Below.alloc ?_ (by first | omega | (simp; done) | (simp; omega) | (simp at *; omega)) _) | (with_reducible refine Below.setCell ?_ (by first | omega | (simp; done) | (simp; omega) | (simp at *; omega)) _) | (with_reducible exact Below.refl _ _) | (with_reducible assumption) | (with_reducible refine Below.trans ?_ (Below.mono (by assumption) (by first | omega | (simp; done) | (simp; omega) | (simp at *; omega)))))))) hg).mono ?_
  rintro e w3 ⟨rfl, hbw3⟩
  have z3 := hbw3.size
  try simp at z3
  have c3_0 : w3.cell? ⟨w.heap.size, 0, none⟩ = some (.int .i64 o) := by rw [(bcell hbw3).1 _ _ (by first | (simp; done) | (simp; omega) | omega)]; simp [go_sem, World.cell?_alloc_past, *]
  have c3_1 : w3.cell? ⟨w.heap.size, 1, none⟩ = some (.int .i64 h) := by rw [(bcell hbw3).1 _ _ (by first | (simp; done) | (simp; omega) | omega)]; simp [go_sem, World.cell?_alloc_past, *]
  have c3_2 : w3.cell? ⟨w.heap.size, 2, none⟩ = some (.int .i64 s) := by rw [(bcell hbw3).1 _ _ (by first | (simp; done) | (simp; omega) | omega)]; simp [go_sem, World.cell?_alloc_past, *]
  have c3_3 : w3.cell? ⟨w.heap.size, 3, none⟩ = some (.int .i64 a) := by rw [(bcell hbw3).1 _ _ (by first | (simp; done) | (simp; omega) | omega)]; simp [go_sem, World.cell?_alloc_past, *]
  have c3_4 : w3.cell? ⟨w.heap.size, 4, none⟩ = some (.int .i64 b) := by rw [(bcell hbw3).1 _ _ (by first | (simp; done) | (simp; omega) | omega)]; simp [go_sem, World.cell?_alloc_past, *]
  have c3_5 : w3.cell? ⟨w.heap.size + 1, 0, none⟩ = some (.int .i64 lo) := by rw [(bcell hbw3).1 _ _ (by first | (simp; done) | (simp; omega) | omega)]; simp [go_sem, World.cell?_alloc_past, *]
  have c3_6 : w3.cell? ⟨w.heap.size + 1, 1, none⟩ = some (.int .i64 hi) := by rw [(bcell hbw3).1 _ _ (by first | (simp; done) | (simp; omega) | omega)]; simp [go_sem, World.cell?_alloc_past, *]
  have hB3 : Below w.heap.size w w3 := (by (repeat (first | (with_reducible refine Below.drew ?_) | (with_reducible refine below_drewN ?_ _) | (with_reducible refine Below.alloc ?_ (by first | omega | (simp; done) | (simp; omega) | (simp at *; omega)) _) | (with_reducible refine Below.setCell ?_ (by first | omega | (simp; done) | (simp; omega) | (simp at *; omega)) _) | (with_reducible exact Below.refl _ _) | (with_reducible assumption) | (with_reducible refine Below.trans ?_ (Below.mono (by assumption) (by first | omega | (simp; done) | (simp; omega) | (simp at *; omega)))))))
  clear y0 y1 y2 y3 y4 y5 y6 o2_0 n2_0 t2_0_1 t2_0_2 t2_0_3 t2_0_4 t2_0_5 t2_0_6 o2_1 n2_1 t2_1_1 t2_1_2 t2_1_3 t2_1_4 t2_1_5 t2_1_6
  have o3_0 : w.heap.size < w3.heap.size := by omega
  have n3_0 : w3.heap.size ≠ w.heap.size := by omega
  have t3_0_1 : w.heap.size < w3.heap.size + 1 := by omega
  have t3_0_2 : w.heap.size < w3.heap.size + 1 + 1 := by omega
  have t3_0_3 : w.heap.size < w3.heap.size + 1 + 1 + 1 := by omega
  have t3_0_4 : w.heap.size < w3.heap.size + 1 + 1 + 1 + 1 := by omega
  have t3_0_5 : w.heap.size < w3.heap.size + 1 + 1 + 1 + 1 + 1 := by omega
  have t3_0_6 : w.heap.size < w3.heap.size + 1 + 1 + 1 + 1 + 1 + 1 := by omega
  have o3_1 : w.heap.size + 1 < w3.heap.size := by omega
  have n3_1 : w3.heap.size ≠ w.heap.size + 1 := by omega
  have t3_1_1 : w.heap.size + 1 < w3.heap.size + 1 := by omega
  have t3_1_2 : w.heap.size + 1 < w3.heap.size + 1 + 1 := by omega
  have t3_1_3 : w.heap.size + 1 < w3.heap.size + 1 + 1 + 1 := by omega
  have t3_1_4 : w.heap.size + 1 < w3.heap.size + 1 + 1 + 1 + 1 := by omega
  have t3_1_5 : w.heap.size + 1 < w3.heap.size + 1 + 1 + 1 + 1 + 1 := by omega
  have t3_1_6 : w.heap.size + 1 < w3.heap.size + 1 + 1 + 1 + 1 + 1 + 1 := by omega
  have b3 : w.heap.size ≤ w3.heap.size := by omega
  clear hbw3
  go_wp2_with (first | (go_at_call 25; ((with_reducible refine (CheckPlace_c s 0 c _ hs).mono ?_)); rintro e w' ⟨rfl, rfl⟩))
  go_ret
  exact ⟨by first | rfl | (simp; done) | (apply ret_bool; simp; omega), (by (repeat (first | (with_reducible refine Below.drew ?_) | (with_reducible refine below_drewN ?_ _) | (with_reducible refine Below.alloc ?_ (by first | omega | (simp; done) | (simp; omega) | (simp at *; omega)) _) | (with_reducible refine Below.setCell ?_ (by first | omega | (simp; done) | (simp; omega) | (simp at *; omega)) _) | (with_reducible exact Below.refl _ _) | (with_reducible assumption) | (with_reducible refine Below.trans ?_ (Below.mono (by assumption) (by first | omega | (simp; done) | (simp; omega) | (simp at *; omega)))))))⟩
set_option maxRecDepth 100000 in
set_option maxHeartbeats 4000000 in
theorem plaw_l (P : List Gs) (A : Option Addr) (cap : Nat) (o h s a b lo hi : Int) (w : World) (m : Int) (hm : w.cell? ⟨1, 0, none⟩ = some (.int .i64 m)) (hl : P.length ≤ 9223372036854775807) (hx : Hid (decide (P.length ≤ 11) = true)) (hl1 : P.length ≤ 1000000) (hA : A = none → cap = 0) (HS : Hid (SlAt w A P)) (c : Int) (hE : Hid (gapE P s a b lo hi = c)) (hn : Hid (c ≠ 0)) (hc1 : (c != 0) = true) (hc2 : (c == 0) = false) (hg : Hid (gasesE P = 0)) (hs : Hid (plE s 0 = 0)) (hli : Hid (limE a b = c)) :
    Calls Tryd.prog 13 #[.slice A P.length cap, .agg #[.int .i64 o, .int .i64 h, .int .i64 s, .int .i64 a, .int .i64 b], .agg #[.int .i64 lo, .int .i64 hi]] w fun e w' => e = .returned (.bool true) ∧ Below w.heap.size w w' := by
  have hlm := World.block_lt_of_cell? _ _ hm
  have hne : w.heap.size ≠ 1 := by simp at hlm; omega
  have hl2 : 1 < w.heap.size := by simpa using hlm
  clear hlm
  have HA := Lib.hid hA
  clear hA
  go_enter Tryd.func13, Tryd.ntmps13
  go_wp2_with fail
  refine (awake_any _ m (by exact oldCell3 (by (repeat (first | (with_reducible refine Below.drew ?_) | (with_reducible refine below_drewN ?_ _) | (with_reducible refine Below.alloc ?_ (by first | omega | (simp; done) | (simp; omega) | (simp at *; omega)) _) | (with_reducible refine Below.setCell ?_ (by first | omega | (simp; done) | (simp; omega) | (simp at *; omega)) _) | (with_reducible exact Below.refl _ _) | (with_reducible assumption) | (with_reducible refine Below.trans ?_ (Below.mono (by assumption) (by first | omega | (simp; done) | (simp; omega) | (simp at *; omega))))))) hm)).mono ?_
  rintro e w1 ⟨rfl, hbw1⟩
  have z1 := hbw1.size
  try simp at z1
  have c1_0 : w1.cell? ⟨w.heap.size, 0, none⟩ = some (.int .i64 o) := by rw [(bcell hbw1).1 _ _ (by first | (simp; done) | (simp; omega) | omega)]; simp [go_sem, World.cell?_alloc_past, *]
  have c1_1 : w1.cell? ⟨w.heap.size, 1, none⟩ = some (.int .i64 h) := by rw [(bcell hbw1).1 _ _ (by first | (simp; done) | (simp; omega) | omega)]; simp [go_sem, World.cell?_alloc_past, *]
  have c1_2 : w1.cell? ⟨w.heap.size, 2, none⟩ = some (.int .i64 s) := by rw [(bcell hbw1).1 _ _ (by first | (simp; done) | (simp; omega) | omega)]; simp [go_sem, World.cell?_alloc_past, *]
  have c1_3 : w1.cell? ⟨w.heap.size, 3, none⟩ = some (.int .i64 a) := by rw [(bcell hbw1).1 _ _ (by first | (simp; done) | (simp; omega) | omega)]; simp [go_sem, World.cell?_alloc_past, *]
  have c1_4 : w1.cell? ⟨w.heap.size, 4, none⟩ = some (.int .i64 b) := by rw [(bcell hbw1).1 _ _ (by first | (simp; done) | (simp; omega) | omega)]; simp [go_sem, World.cell?_alloc_past, *]
  have c1_5 : w1.cell? ⟨w.heap.size + 1, 0, none⟩ = some (.int .i64 lo) := by rw [(bcell hbw1).1 _ _ (by first | (simp; done) | (simp; omega) | omega)]; simp [go_sem, World.cell?_alloc_past, *]
  have c1_6 : w1.cell? ⟨w.heap.size + 1, 1, none⟩ = some (.int .i64 hi) := by rw [(bcell hbw1).1 _ _ (by first | (simp; done) | (simp; omega) | omega)]; simp [go_sem, World.cell?_alloc_past, *]
  have hB1 : Below w.heap.size w w1 := (by (repeat (first | (with_reducible refine Below.drew ?_) | (with_reducible refine below_drewN ?_ _) | (with_reducible refine Below.alloc ?_ (by first | omega | (simp; done) | (simp; omega) | (simp at *; omega)) _) | (with_reducible refine Below.setCell ?_ (by first | omega | (simp; done) | (simp; omega) | (simp at *; omega)) _) | (with_reducible exact Below.refl _ _) | (with_reducible assumption) | (with_reducible refine Below.trans ?_ (Below.mono (by assumption) (by first | omega | (simp; done) | (simp; omega) | (simp at *; omega)))))))
  have o1_0 : w.heap.size < w1.heap.size := by omega
  have n1_0 : w1.heap.size ≠ w.heap.size := by omega
  have t1_0_1 : w.heap.size < w1.heap.size + 1 := by omega
  have t1_0_2 : w.heap.size < w1.heap.size + 1 + 1 := by omega
  have t1_0_3 : w.heap.size < w1.heap.size + 1 + 1 + 1 := by omega
  have t1_0_4 : w.heap.size < w1.heap.size + 1 + 1 + 1 + 1 := by omega
  have t1_0_5 : w.heap.size < w1.heap.size + 1 + 1 + 1 + 1 + 1 := by omega
  have t1_0_6 : w.heap.size < w1.heap.size + 1 + 1 + 1 + 1 + 1 + 1 := by omega
  have o1_1 : w.heap.size + 1 < w1.heap.size := by omega
  have n1_1 : w1.heap.size ≠ w.heap.size + 1 := by omega
  have t1_1_1 : w.heap.size + 1 < w1.heap.size + 1 := by omega
  have t1_1_2 : w.heap.size + 1 < w1.heap.size + 1 + 1 := by omega
  have t1_1_3 : w.heap.size + 1 < w1.heap.size + 1 + 1 + 1 := by omega
  have t1_1_4 : w.heap.size + 1 < w1.heap.size + 1 + 1 + 1 + 1 := by omega
  have t1_1_5 : w.heap.size + 1 < w1.heap.size + 1 + 1 + 1 + 1 + 1 := by omega
  have t1_1_6 : w.heap.size + 1 < w1.heap.size + 1 + 1 + 1 + 1 + 1 + 1 := by omega
  have b1 : w.heap.size ≤ w1.heap.size := by omega
  clear hbw1
  go_wp2_with ((go_at_call 47; ((with_reducible refine (many_any A P.length cap _ true hx hl).mono ?_)); rintro e w' ⟨rfl, rfl⟩))
  refine wp_region_held_drew (S := (fun w' => w'.cell? ⟨w.heap.size, 0, none⟩ = some (.int .i64 o) ∧ w'.cell? ⟨w.heap.size, 1, none⟩ = some (.int .i64 h) ∧ w'.cell? ⟨w.heap.size, 2, none⟩ = some (.int .i64 s) ∧ w'.cell? ⟨w.heap.size, 3, none⟩ = some (.int .i64 a) ∧ w'.cell? ⟨w.heap.size, 4, none⟩ = some (.int .i64 b) ∧ w'.cell? ⟨w.heap.size + 1, 0, none⟩ = some (.int .i64 lo) ∧ w'.cell? ⟨w.heap.size + 1, 1, none⟩ = some (.int .i64 hi))) (by kernel_rfl) (by simp [go_sem, World.cell?_alloc_past, *]) (fun hHeld => ?_)
  refine wpAnyH_take (i := 0) (oi := ⟨some 17, _, _, _, _, _⟩) (v := ?_) rfl (by kernel_rfl) (by kernel_rfl) (by kernel_rfl) (fun _ _ _ h => h) (Or.inl ⟨by kernel_rfl, ?_⟩) (by assumption) ?_
  rotate_left
  · (intro w hSw; (try dsimp only at hSw); go_simp; all_goals with_reducible rfl)
  try simp only [Act.put, List.setIfInBounds_toArray, List.set_cons_zero, List.set_cons_succ]
  refine wpAnyH_take (i := 2) (oi := ⟨some 19, _, _, _, _, _⟩) (v := ?_) rfl (by kernel_rfl) (by kernel_rfl) (by kernel_rfl) (fun _ _ _ h => h) (Or.inl ⟨by kernel_rfl, ?_⟩) (by assumption) ?_
  rotate_left
  · (intro w hSw; (try dsimp only at hSw); go_simp; all_goals with_reducible rfl)
  try simp only [Act.put, List.setIfInBounds_toArray, List.set_cons_zero, List.set_cons_succ]
  refine wpAnyH_take (i := 3) (oi := ⟨some 20, _, _, _, _, _⟩) (v := ?_) rfl (by kernel_rfl) (by kernel_rfl) (by kernel_rfl) (fun _ _ _ h => h) (Or.inl ⟨by kernel_rfl, ?_⟩) (by assumption) ?_
  rotate_left
  · (intro w hSw; (try dsimp only at hSw); go_simp; all_goals with_reducible rfl)
  try simp only [Act.put, List.setIfInBounds_toArray, List.set_cons_zero, List.set_cons_succ]
  refine wpAnyH_take (i := 4) (oi := ⟨some 21, _, _, _, _, _⟩) (v := ?_) rfl (by kernel_rfl) (by kernel_rfl) (by kernel_rfl) (fun _ _ _ h => h) (Or.inl ⟨by kernel_rfl, ?_⟩) (by assumption) ?_
  rotate_left
  · (intro w hSw; (try dsimp only at hSw); go_simp; all_goals with_reducible rfl)
  try simp only [Act.put, List.setIfInBounds_toArray, List.set_cons_zero, List.set_cons_succ]
  refine wpAnyH_take (i := 5) (oi := ⟨some 22, _, _, _, _, _⟩) (v := ?_) rfl (by kernel_rfl) (by kernel_rfl) (by kernel_rfl) (fun _ _ _ h => h) (Or.inl ⟨by kernel_rfl, ?_⟩) (by assumption) ?_
  rotate_left
  · (intro w hSw; (try dsimp only at hSw); go_simp; all_goals with_reducible rfl)
  try simp only [Act.put, List.setIfInBounds_toArray, List.set_cons_zero, List.set_cons_succ]
  refine wpAnyH_take (i := 6) (oi := ⟨some 23, _, _, _, _, _⟩) (v := ?_) rfl (by kernel_rfl) (by kernel_rfl) (by kernel_rfl) (fun _ _ _ h => h) (Or.inl ⟨by kernel_rfl, ?_⟩) (by assumption) ?_
  rotate_left
  · (intro w hSw; (try dsimp only at hSw); go_simp; all_goals with_reducible rfl)
  try simp only [Act.put, List.setIfInBounds_toArray, List.set_cons_zero, List.set_cons_succ]
  refine wpAnyH_ready (rs := [1]) (by kernel_rfl) (by simp) ?_
  refine AllReadyH.cons rfl (fun K hK => ?_) AllReadyH.nil
  go_simp
  go_at_call 48
  ((with_reducible refine (CopyGases_any P A cap _ hl1 HA.out (by exact HS.out.below (by (repeat (first | (with_reducible refine Below.drew ?_) | (with_reducible refine below_drewN ?_ _) | (with_reducible refine Below.alloc ?_ (by first | omega | (simp; done) | (simp; omega) | (simp at *; omega)) _) | (with_reducible refine Below.setCell ?_ (by first | omega | (simp; done) | (simp; omega) | (simp at *; omega)) _) | (with_reducible exact Below.refl _ _) | (with_reducible assumption) | (with_reducible refine Below.trans ?_ (Below.mono (by assumption) (by first | omega | (simp; done) | (simp; omega) | (simp at *; omega))))))))).mono ?_))
  rintro e wA ⟨A', cap', rfl, hSl, hbwA⟩
  have zA := hbwA.size
  (try simp at zA)
  have x0 : wA.cell? ⟨w.heap.size, 0, none⟩ = some (.int .i64 o) := (by rw [(bcell hbwA).1 _ _ (by first | (simp; done) | (simp; omega) | omega)]; simp [go_sem, World.cell?_alloc_past, *])
  have x1 : wA.cell? ⟨w.heap.size, 1, none⟩ = some (.int .i64 h) := (by rw [(bcell hbwA).1 _ _ (by first | (simp; done) | (simp; omega) | omega)]; simp [go_sem, World.cell?_alloc_past, *])
  have x2 : wA.cell? ⟨w.heap.size, 2, none⟩ = some (.int .i64 s) := (by rw [(bcell hbwA).1 _ _ (by first | (simp; done) | (simp; omega) | omega)]; simp [go_sem, World.cell?_alloc_past, *])
  have x3 : wA.cell? ⟨w.heap.size, 3, none⟩ = some (.int .i64 a) := (by rw [(bcell hbwA).1 _ _ (by first | (simp; done) | (simp; omega) | omega)]; simp [go_sem, World.cell?_alloc_past, *])
  have x4 : wA.cell? ⟨w.heap.size, 4, none⟩ = some (.int .i64 b) := (by rw [(bcell hbwA).1 _ _ (by first | (simp; done) | (simp; omega) | omega)]; simp [go_sem, World.cell?_alloc_past, *])
  have x5 : wA.cell? ⟨w.heap.size + 1, 0, none⟩ = some (.int .i64 lo) := (by rw [(bcell hbwA).1 _ _ (by first | (simp; done) | (simp; omega) | omega)]; simp [go_sem, World.cell?_alloc_past, *])
  have x6 : wA.cell? ⟨w.heap.size + 1, 1, none⟩ = some (.int .i64 hi) := (by rw [(bcell hbwA).1 _ _ (by first | (simp; done) | (simp; omega) | omega)]; simp [go_sem, World.cell?_alloc_past, *])
  have hBA : Below w.heap.size w wA := (by (repeat (first | (with_reducible refine Below.drew ?_) | (with_reducible refine below_drewN ?_ _) | (with_reducible refine Below.alloc ?_ (by first | omega | (simp; done) | (simp; omega) | (simp at *; omega)) _) | (with_reducible refine Below.setCell ?_ (by first | omega | (simp; done) | (simp; omega) | (simp at *; omega)) _) | (with_reducible exact Below.refl _ _) | (with_reducible assumption) | (with_reducible refine Below.trans ?_ (Below.mono (by assumption) (by first | omega | (simp; done) | (simp; omega) | (simp at *; omega)))))))
  have HSl := Lib.hid hSl
  clear hSl
  go_wp2_with fail
  refine hK.out _ _ (by simp [go_sem, World.cell?_alloc_past, *]) (fun hHeld => ?_)
  clear hK K
  try simp only [Act.put, List.setIfInBounds_toArray, List.set_cons_zero, List.set_cons_succ]
  refine wpAnyH_ready (rs := [7]) (by kernel_rfl) (by simp) ?_
  refine AllReadyH.cons rfl (fun K hK => ?_) AllReadyH.nil
  go_simp
  go_at_call 51
  ((with_reducible refine (FirstGap_bad P A' cap' s a b lo hi c _ hl1 (by exact HSl.out.below (by (repeat (first | (with_reducible refine Below.drew ?_) | (with_reducible refine below_drewN ?_ _) | (with_reducible refine Below.alloc ?_ (by first | omega | (simp; done) | (simp; omega) | (simp at *; omega)) _) | (with_reducible refine Below.setCell ?_ (by first | omega | (simp; done) | (simp; omega) | (simp at *; omega)) _) | (with_reducible exact Below.refl _ _) | (with_reducible assumption) | (with_reducible refine Below.trans ?_ (Below.mono (by assumption) (by first | omega | (simp; done) | (simp; omega) | (simp at *; omega)))))))) hE hn).mono ?_))
  rintro e wB ⟨rfl, hbwB⟩
  have zB := hbwB.size
  (try simp at zB)
  have y0 : wB.cell? ⟨w.heap.size, 0, none⟩ = some (.int .i64 o) := (by rw [(bcell hbwB).1 _ _ (by first | (simp; done) | (simp; omega) | omega)]; simp [go_sem, World.cell?_alloc_past, *])
  have y1 : wB.cell? ⟨w.heap.size, 1, none⟩ = some (.int .i64 h) := (by rw [(bcell hbwB).1 _ _ (by first | (simp; done) | (simp; omega) | omega)]; simp [go_sem, World.cell?_alloc_past, *])
  have y2 : wB.cell? ⟨w.heap.size, 2, none⟩ = some (.int .i64 s) := (by rw [(bcell hbwB).1 _ _ (by first | (simp; done) | (simp; omega) | omega)]; simp [go_sem, World.cell?_alloc_past, *])
  have y3 : wB.cell? ⟨w.heap.size, 3, none⟩ = some (.int .i64 a) := (by rw [(bcell hbwB).1 _ _ (by first | (simp; done) | (simp; omega) | omega)]; simp [go_sem, World.cell?_alloc_past, *])
  have y4 : wB.cell? ⟨w.heap.size, 4, none⟩ = some (.int .i64 b) := (by rw [(bcell hbwB).1 _ _ (by first | (simp; done) | (simp; omega) | omega)]; simp [go_sem, World.cell?_alloc_past, *])
  have y5 : wB.cell? ⟨w.heap.size + 1, 0, none⟩ = some (.int .i64 lo) := (by rw [(bcell hbwB).1 _ _ (by first | (simp; done) | (simp; omega) | omega)]; simp [go_sem, World.cell?_alloc_past, *])
  have y6 : wB.cell? ⟨w.heap.size + 1, 1, none⟩ = some (.int .i64 hi) := (by rw [(bcell hbwB).1 _ _ (by first | (simp; done) | (simp; omega) | omega)]; simp [go_sem, World.cell?_alloc_past, *])
  have hBB : Below w.heap.size w wB := (by (repeat (first | (with_reducible refine Below.drew ?_) | (with_reducible refine below_drewN ?_ _) | (with_reducible refine Below.alloc ?_ (by first | omega | (simp; done) | (simp; omega) | (simp at *; omega)) _) | (with_reducible refine Below.setCell ?_ (by first | omega | (simp; done) | (simp; omega) | (simp at *; omega)) _) | (with_reducible exact Below.refl _ _) | (with_reducible assumption) | (with_reducible refine Below.trans ?_ (Below.mono (by assumption) (by first | omega | (simp; done) | (simp; omega) | (simp at *; omega)))))))
  go_wp2_with fail
  refine hK.out _ _ (by simp [go_sem, World.cell?_alloc_past, *]) (fun hHeld => ?_)
  clear hK K
  try simp only [Act.put, List.setIfInBounds_toArray, List.set_cons_zero, List.set_cons_succ]
  refine wpAnyH_take (i := 8) (oi := ⟨some 16, _, _, _, _, _⟩) (v := ?_) rfl (by kernel_rfl) (by kernel_rfl) (by kernel_rfl) (fun _ _ _ h => h) (Or.inl ⟨by kernel_rfl, ?_⟩) (by assumption) ?_
  rotate_left
  · (intro w hSw; (try dsimp only at hSw); go_simp; all_goals with_reducible rfl)
  try simp only [Act.put, List.setIfInBounds_toArray, List.set_cons_zero, List.set_cons_succ]
  refine wpAnyH_take (i := 9) (oi := ⟨some 25, _, _, _, _, _⟩) (v := ?_) rfl (by kernel_rfl) (by kernel_rfl) (by kernel_rfl) (fun _ _ _ h => h) (Or.inl ⟨by kernel_rfl, ?_⟩) (by assumption) ?_
  rotate_left
  · (intro w hSw; (try dsimp only at hSw); go_simp; all_goals with_reducible rfl)
  try simp only [Act.put, List.setIfInBounds_toArray, List.set_cons_zero, List.set_cons_succ]
  refine wpAnyH_take (i := 10) (oi := ⟨some 26, _, _, _, _, _⟩) (v := ?_) rfl (by kernel_rfl) (by kernel_rfl) (by kernel_rfl) (fun _ _ _ h => h) (Or.inl ⟨by kernel_rfl, ?_⟩) (by assumption) ?_
  rotate_left
  · (intro w hSw; (try dsimp only at hSw); go_simp; all_goals with_reducible rfl)
  try simp only [Act.put, List.setIfInBounds_toArray, List.set_cons_zero, List.set_cons_succ]
  refine wpAnyH_take (i := 11) (oi := ⟨some 7, _, _, _, _, _⟩) (v := ?_) rfl (by kernel_rfl) (by kernel_rfl) (by kernel_rfl) (fun _ _ _ h => h) (Or.inl ⟨by kernel_rfl, ?_⟩) (by assumption) ?_
  rotate_left
  · (intro w hSw; (try dsimp only at hSw); go_simp; all_goals with_reducible rfl)
  try simp only [Act.put, List.setIfInBounds_toArray, List.set_cons_zero, List.set_cons_succ]
  refine wpAnyH_take (i := 12) (oi := ⟨some 8, _, _, _, _, _⟩) (v := ?_) rfl (by kernel_rfl) (by kernel_rfl) (by kernel_rfl) (fun _ _ _ h => h) (Or.inl ⟨by kernel_rfl, ?_⟩) (by assumption) ?_
  rotate_left
  · (intro w hSw; (try dsimp only at hSw); go_simp; all_goals with_reducible rfl)
  try simp only [Act.put, List.setIfInBounds_toArray, List.set_cons_zero, List.set_cons_succ]
  refine wpAnyH_done (by kernel_rfl) ?_ _
  clear c1_0 c1_1 c1_2 c1_3 c1_4 c1_5 c1_6 o1_0 n1_0 t1_0_1 t1_0_2 t1_0_3 t1_0_4 t1_0_5 t1_0_6 o1_1 n1_1 t1_1_1 t1_1_2 t1_1_3 t1_1_4 t1_1_5 t1_1_6 hbwA hbwB x0 x1 x2 x3 x4 x5 x6
  have hsB := hBB.size
  have o2_0 : w.heap.size < wB.heap.size := by omega
  have n2_0 : wB.heap.size ≠ w.heap.size := by omega
  have t2_0_1 : w.heap.size < wB.heap.size + 1 := by omega
  have t2_0_2 : w.heap.size < wB.heap.size + 1 + 1 := by omega
  have t2_0_3 : w.heap.size < wB.heap.size + 1 + 1 + 1 := by omega
  have t2_0_4 : w.heap.size < wB.heap.size + 1 + 1 + 1 + 1 := by omega
  have t2_0_5 : w.heap.size < wB.heap.size + 1 + 1 + 1 + 1 + 1 := by omega
  have t2_0_6 : w.heap.size < wB.heap.size + 1 + 1 + 1 + 1 + 1 + 1 := by omega
  have o2_1 : w.heap.size + 1 < wB.heap.size := by omega
  have n2_1 : wB.heap.size ≠ w.heap.size + 1 := by omega
  have t2_1_1 : w.heap.size + 1 < wB.heap.size + 1 := by omega
  have t2_1_2 : w.heap.size + 1 < wB.heap.size + 1 + 1 := by omega
  have t2_1_3 : w.heap.size + 1 < wB.heap.size + 1 + 1 + 1 := by omega
  have t2_1_4 : w.heap.size + 1 < wB.heap.size + 1 + 1 + 1 + 1 := by omega
  have t2_1_5 : w.heap.size + 1 < wB.heap.size + 1 + 1 + 1 + 1 + 1 := by omega
  have t2_1_6 : w.heap.size + 1 < wB.heap.size + 1 + 1 + 1 + 1 + 1 + 1 := by omega
  have b2 : w.heap.size ≤ wB.heap.size := by omega
  go_wp2_with fail
  refine (refCheckGases_is P A cap 0 _ hl1 (by exact HS.out.below (by (repeat (first | (with_reducible refine Below.drew ?_) | (with_reducible refine below_drewN ?_ _) | (with_reducible refine Below.alloc ?_ (by first | omega | (simp; done) | (simp; omega) | (simp at *; omega)) _) | (with_reducible refine Below.setCell ?_ (by first | omega | (simp; done) | (simp; omega) | (simp at *; omega)) _) | (with_reducible exact Below.refl _ _) | (with_reducible assumption) | (with_reducible refine Below.trans ?_ (Below.mono (by assumption) (by first | omega | (simp; done) | (simp; omega) | (simp at *; omega)))))))) hg).mono ?_
  rintro e w3 ⟨rfl, hbw3⟩
  have z3 := hbw3.size
  try simp at z3
  have c3_0 : w3.cell? ⟨w.heap.size, 0, none⟩ = some (.int .i64 o) := by rw [(bcell hbw3).1 _ _ (by first | (simp; done) | (simp; omega) | omega)]; simp [go_sem, World.cell?_alloc_past, *]
  have c3_1 : w3.cell? ⟨w.heap.size, 1, none⟩ = some (.int .i64 h) := by rw [(bcell hbw3).1 _ _ (by first | (simp; done) | (simp; omega) | omega)]; simp [go_sem, World.cell?_alloc_past, *]
  have c3_2 : w3.cell? ⟨w.heap.size, 2, none⟩ = some (.int .i64 s) := by rw [(bcell hbw3).1 _ _ (by first | (simp; done) | (simp; omega) | omega)]; simp [go_sem, World.cell?_alloc_past, *]
  have c3_3 : w3.cell? ⟨w.heap.size, 3, none⟩ = some (.int .i64 a) := by rw [(bcell hbw3).1 _ _ (by first | (simp; done) | (simp; omega) | omega)]; simp [go_sem, World.cell?_alloc_past, *]
  have c3_4 : w3.cell? ⟨w.heap.size, 4, none⟩ = some (.int .i64 b) := by rw [(bcell hbw3).1 _ _ (by first | (simp; done) | (simp; omega) | omega)]; simp [go_sem, World.cell?_alloc_past, *]
  have c3_5 : w3.cell? ⟨w.heap.size + 1, 0, none⟩ = some (.int .i64 lo) := by rw [(bcell hbw3).1 _ _ (by first | (simp; done) | (simp; omega) | omega)]; simp [go_sem, World.cell?_alloc_past, *]
  have c3_6 : w3.cell? ⟨w.heap.size + 1, 1, none⟩ = some (.int .i64 hi) := by rw [(bcell hbw3).1 _ _ (by first | (simp; done) | (simp; omega) | omega)]; simp [go_sem, World.cell?_alloc_past, *]
  have hB3 : Below w.heap.size w w3 := (by (repeat (first | (with_reducible refine Below.drew ?_) | (with_reducible refine below_drewN ?_ _) | (with_reducible refine Below.alloc ?_ (by first | omega | (simp; done) | (simp; omega) | (simp at *; omega)) _) | (with_reducible refine Below.setCell ?_ (by first | omega | (simp; done) | (simp; omega) | (simp at *; omega)) _) | (with_reducible exact Below.refl _ _) | (with_reducible assumption) | (with_reducible refine Below.trans ?_ (Below.mono (by assumption) (by first | omega | (simp; done) | (simp; omega) | (simp at *; omega)))))))
  clear y0 y1 y2 y3 y4 y5 y6 o2_0 n2_0 t2_0_1 t2_0_2 t2_0_3 t2_0_4 t2_0_5 t2_0_6 o2_1 n2_1 t2_1_1 t2_1_2 t2_1_3 t2_1_4 t2_1_5 t2_1_6
  have o3_0 : w.heap.size < w3.heap.size := by omega
  have n3_0 : w3.heap.size ≠ w.heap.size := by omega
  have t3_0_1 : w.heap.size < w3.heap.size + 1 := by omega
  have t3_0_2 : w.heap.size < w3.heap.size + 1 + 1 := by omega
  have t3_0_3 : w.heap.size < w3.heap.size + 1 + 1 + 1 := by omega
  have t3_0_4 : w.heap.size < w3.heap.size + 1 + 1 + 1 + 1 := by omega
  have t3_0_5 : w.heap.size < w3.heap.size + 1 + 1 + 1 + 1 + 1 := by omega
  have t3_0_6 : w.heap.size < w3.heap.size + 1 + 1 + 1 + 1 + 1 + 1 := by omega
  have o3_1 : w.heap.size + 1 < w3.heap.size := by omega
  have n3_1 : w3.heap.size ≠ w.heap.size + 1 := by omega
  have t3_1_1 : w.heap.size + 1 < w3.heap.size + 1 := by omega
  have t3_1_2 : w.heap.size + 1 < w3.heap.size + 1 + 1 := by omega
  have t3_1_3 : w.heap.size + 1 < w3.heap.size + 1 + 1 + 1 := by omega
  have t3_1_4 : w.heap.size + 1 < w3.heap.size + 1 + 1 + 1 + 1 := by omega
  have t3_1_5 : w.heap.size + 1 < w3.heap.size + 1 + 1 + 1 + 1 + 1 := by omega
  have t3_1_6 : w.heap.size + 1 < w3.heap.size + 1 + 1 + 1 + 1 + 1 + 1 := by omega
  have b3 : w.heap.size ≤ w3.heap.size := by omega
  clear hbw3
  go_wp2_with (first | (go_at_call 25; ((with_reducible refine (CheckPlace_c s 0 0 _ hs).mono ?_)); rintro e w' ⟨rfl, rfl⟩) | (go_at_call 31; ((with_reducible refine (refCheckLimits_c _ _ c _ hli).mono ?_)); rintro e w' ⟨rfl, rfl⟩))
  go_ret
  exact ⟨by first | rfl | (simp; done) | (apply ret_bool; simp; omega), (by (repeat (first | (with_reducible refine Below.drew ?_) | (with_reducible refine below_drewN ?_ _) | (with_reducible refine Below.alloc ?_ (by first | omega | (simp; done) | (simp; omega) | (simp at *; omega)) _) | (with_reducible refine Below.setCell ?_ (by first | omega | (simp; done) | (simp; omega) | (simp at *; omega)) _) | (with_reducible exact Below.refl _ _) | (with_reducible assumption) | (with_reducible refine Below.trans ?_ (Below.mono (by assumption) (by first | omega | (simp; done) | (simp; omega) | (simp at *; omega)))))))⟩
set_option maxRecDepth 100000 in
set_option maxHeartbeats 4000000 in
theorem plaw_d (P : List Gs) (A : Option Addr) (cap : Nat) (o h s a b lo hi : Int) (w : World) (m : Int) (hm : w.cell? ⟨1, 0, none⟩ = some (.int .i64 m)) (hl : P.length ≤ 9223372036854775807) (hx : Hid (decide (P.length ≤ 11) = true)) (hl1 : P.length ≤ 1000000) (hA : A = none → cap = 0) (HS : Hid (SlAt w A P)) (c : Int) (hE : Hid (gapE P s a b lo hi = c)) (hn : Hid (c ≠ 0)) (hc1 : (c != 0) = true) (hc2 : (c == 0) = false) (hg : Hid (gasesE P = 0)) (hs : Hid (plE s 0 = 0)) (hli : Hid (limE a b = 0)) (hd : Hid (rdE lo hi = c)) :
    Calls Tryd.prog 13 #[.slice A P.length cap, .agg #[.int .i64 o, .int .i64 h, .int .i64 s, .int .i64 a, .int .i64 b], .agg #[.int .i64 lo, .int .i64 hi]] w fun e w' => e = .returned (.bool true) ∧ Below w.heap.size w w' := by
  have hlm := World.block_lt_of_cell? _ _ hm
  have hne : w.heap.size ≠ 1 := by simp at hlm; omega
  have hl2 : 1 < w.heap.size := by simpa using hlm
  clear hlm
  have HA := Lib.hid hA
  clear hA
  go_enter Tryd.func13, Tryd.ntmps13
  go_wp2_with fail
  refine (awake_any _ m (by exact oldCell3 (by (repeat (first | (with_reducible refine Below.drew ?_) | (with_reducible refine below_drewN ?_ _) | (with_reducible refine Below.alloc ?_ (by first | omega | (simp; done) | (simp; omega) | (simp at *; omega)) _) | (with_reducible refine Below.setCell ?_ (by first | omega | (simp; done) | (simp; omega) | (simp at *; omega)) _) | (with_reducible exact Below.refl _ _) | (with_reducible assumption) | (with_reducible refine Below.trans ?_ (Below.mono (by assumption) (by first | omega | (simp; done) | (simp; omega) | (simp at *; omega))))))) hm)).mono ?_
  rintro e w1 ⟨rfl, hbw1⟩
  have z1 := hbw1.size
  try simp at z1
  have c1_0 : w1.cell? ⟨w.heap.size, 0, none⟩ = some (.int .i64 o) := by rw [(bcell hbw1).1 _ _ (by first | (simp; done) | (simp; omega) | omega)]; simp [go_sem, World.cell?_alloc_past, *]
  have c1_1 : w1.cell? ⟨w.heap.size, 1, none⟩ = some (.int .i64 h) := by rw [(bcell hbw1).1 _ _ (by first | (simp; done) | (simp; omega) | omega)]; simp [go_sem, World.cell?_alloc_past, *]
  have c1_2 : w1.cell? ⟨w.heap.size, 2, none⟩ = some (.int .i64 s) := by rw [(bcell hbw1).1 _ _ (by first | (simp; done) | (simp; omega) | omega)]; simp [go_sem, World.cell?_alloc_past, *]
  have c1_3 : w1.cell? ⟨w.heap.size, 3, none⟩ = some (.int .i64 a) := by rw [(bcell hbw1).1 _ _ (by first | (simp; done) | (simp; omega) | omega)]; simp [go_sem, World.cell?_alloc_past, *]
  have c1_4 : w1.cell? ⟨w.heap.size, 4, none⟩ = some (.int .i64 b) := by rw [(bcell hbw1).1 _ _ (by first | (simp; done) | (simp; omega) | omega)]; simp [go_sem, World.cell?_alloc_past, *]
  have c1_5 : w1.cell? ⟨w.heap.size + 1, 0, none⟩ = some (.int .i64 lo) := by rw [(bcell hbw1).1 _ _ (by first | (simp; done) | (simp; omega) | omega)]; simp [go_sem, World.cell?_alloc_past, *]
  have c1_6 : w1.cell? ⟨w.heap.size + 1, 1, none⟩ = some (.int .i64 hi) := by rw [(bcell hbw1).1 _ _ (by first | (simp; done) | (simp; omega) | omega)]; simp [go_sem, World.cell?_alloc_past, *]
  have hB1 : Below w.heap.size w w1 := (by (repeat (first | (with_reducible refine Below.drew ?_) | (with_reducible refine below_drewN ?_ _) | (with_reducible refine Below.alloc ?_ (by first | omega | (simp; done) | (simp; omega) | (simp at *; omega)) _) | (with_reducible refine Below.setCell ?_ (by first | omega | (simp; done) | (simp; omega) | (simp at *; omega)) _) | (with_reducible exact Below.refl _ _) | (with_reducible assumption) | (with_reducible refine Below.trans ?_ (Below.mono (by assumption) (by first | omega | (simp; done) | (simp; omega) | (simp at *; omega)))))))
  have o1_0 : w.heap.size < w1.heap.size := by omega
  have n1_0 : w1.heap.size ≠ w.heap.size := by omega
  have t1_0_1 : w.heap.size < w1.heap.size + 1 := by omega
  have t1_0_2 : w.heap.size < w1.heap.size + 1 + 1 := by omega
  have t1_0_3 : w.heap.size < w1.heap.size + 1 + 1 + 1 := by omega
  have t1_0_4 : w.heap.size < w1.heap.size + 1 + 1 + 1 + 1 := by omega
  have t1_0_5 : w.heap.size < w1.heap.size + 1 + 1 + 1 + 1 + 1 := by omega
  have t1_0_6 : w.heap.size < w1.heap.size + 1 + 1 + 1 + 1 + 1 + 1 := by omega
  have o1_1 : w.heap.size + 1 < w1.heap.size := by omega
  have n1_1 : w1.heap.size ≠ w.heap.size + 1 := by omega
  have t1_1_1 : w.heap.size + 1 < w1.heap.size + 1 := by omega
  have t1_1_2 : w.heap.size + 1 < w1.heap.size + 1 + 1 := by omega
  have t1_1_3 : w.heap.size + 1 < w1.heap.size + 1 + 1 + 1 := by omega
  have t1_1_4 : w.heap.size + 1 < w1.heap.size + 1 + 1 + 1 + 1 := by omega
  have t1_1_5 : w.heap.size + 1 < w1.heap.size + 1 + 1 + 1 + 1 + 1 := by omega
  have t1_1_6 : w.heap.size + 1 < w1.heap.size + 1 + 1 + 1 + 1 + 1 + 1 := by omega
  have b1 : w.heap.size ≤ w1.heap.size := by omega
  clear hbw1
  go_wp2_with ((go_at_call 47; ((with_reducible refine (many_any A P.length cap _ true hx hl).mono ?_)); rintro e w' ⟨rfl, rfl⟩))
  refine wp_region_held_drew (S := (fun w' => w'.cell? ⟨w.heap.size, 0, none⟩ = some (.int .i64 o) ∧ w'.cell? ⟨w.heap.size, 1, none⟩ = some (.int .i64 h) ∧ w'.cell? ⟨w.heap.size, 2, none⟩ = some (.int .i64 s) ∧ w'.cell? ⟨w.heap.size, 3, none⟩ = some (.int .i64 a) ∧ w'.cell? ⟨w.heap.size, 4, none⟩ = some (.int .i64 b) ∧ w'.cell? ⟨w.heap.size + 1, 0, none⟩ = some (.int .i64 lo) ∧ w'.cell? ⟨w.heap.size + 1, 1, none⟩ = some (.int .i64 hi))) (by kernel_rfl) (by simp [go_sem, World.cell?_alloc_past, *]) (fun hHeld => ?_)
  refine wpAnyH_take (i := 0) (oi := ⟨some 17, _, _, _, _, _⟩) (v := ?_) rfl (by kernel_rfl) (by kernel_rfl) (by kernel_rfl) (fun _ _ _ h => h) (Or.inl ⟨by kernel_rfl, ?_⟩) (by assumption) ?_
  rotate_left
  · (intro w hSw; (try dsimp only at hSw); go_simp; all_goals with_reducible rfl)
  try simp only [Act.put, List.setIfInBounds_toArray, List.set_cons_zero, List.set_cons_succ]
  refine wpAnyH_take (i := 2) (oi := ⟨some 19, _, _, _, _, _⟩) (v := ?_) rfl (by kernel_rfl) (by kernel_rfl) (by kernel_rfl) (fun _ _ _ h => h) (Or.inl ⟨by kernel_rfl, ?_⟩) (by assumption) ?_
  rotate_left
  · (intro w hSw; (try dsimp only at hSw); go_simp; all_goals with_reducible rfl)
  try simp only [Act.put, List.setIfInBounds_toArray, List.set_cons_zero, List.set_cons_succ]
  refine wpAnyH_take (i := 3) (oi := ⟨some 20, _, _, _, _, _⟩) (v := ?_) rfl (by kernel_rfl) (by kernel_rfl) (by kernel_rfl) (fun _ _ _ h => h) (Or.inl ⟨by kernel_rfl, ?_⟩) (by assumption) ?_
  rotate_left
  · (intro w hSw; (try dsimp only at hSw); go_simp; all_goals with_reducible rfl)
  try simp only [Act.put, List.setIfInBounds_toArray, List.set_cons_zero, List.set_cons_succ]
  refine wpAnyH_take (i := 4) (oi := ⟨some 21, _, _, _, _, _⟩) (v := ?_) rfl (by kernel_rfl) (by kernel_rfl) (by kernel_rfl) (fun _ _ _ h => h) (Or.inl ⟨by kernel_rfl, ?_⟩) (by assumption) ?_
  rotate_left
  · (intro w hSw; (try dsimp only at hSw); go_simp; all_goals with_reducible rfl)
  try simp only [Act.put, List.setIfInBounds_toArray, List.set_cons_zero, List.set_cons_succ]
  refine wpAnyH_take (i := 5) (oi := ⟨some 22, _, _, _, _, _⟩) (v := ?_) rfl (by kernel_rfl) (by kernel_rfl) (by kernel_rfl) (fun _ _ _ h => h) (Or.inl ⟨by kernel_rfl, ?_⟩) (by assumption) ?_
  rotate_left
  · (intro w hSw; (try dsimp only at hSw); go_simp; all_goals with_reducible rfl)
  try simp only [Act.put, List.setIfInBounds_toArray, List.set_cons_zero, List.set_cons_succ]
  refine wpAnyH_take (i := 6) (oi := ⟨some 23, _, _, _, _, _⟩) (v := ?_) rfl (by kernel_rfl) (by kernel_rfl) (by kernel_rfl) (fun _ _ _ h => h) (Or.inl ⟨by kernel_rfl, ?_⟩) (by assumption) ?_
  rotate_left
  · (intro w hSw; (try dsimp only at hSw); go_simp; all_goals with_reducible rfl)
  try simp only [Act.put, List.setIfInBounds_toArray, List.set_cons_zero, List.set_cons_succ]
  refine wpAnyH_ready (rs := [1]) (by kernel_rfl) (by simp) ?_
  refine AllReadyH.cons rfl (fun K hK => ?_) AllReadyH.nil
  go_simp
  go_at_call 48
  ((with_reducible refine (CopyGases_any P A cap _ hl1 HA.out (by exact HS.out.below (by (repeat (first | (with_reducible refine Below.drew ?_) | (with_reducible refine below_drewN ?_ _) | (with_reducible refine Below.alloc ?_ (by first | omega | (simp; done) | (simp; omega) | (simp at *; omega)) _) | (with_reducible refine Below.setCell ?_ (by first | omega | (simp; done) | (simp; omega) | (simp at *; omega)) _) | (with_reducible exact Below.refl _ _) | (with_reducible assumption) | (with_reducible refine Below.trans ?_ (Below.mono (by assumption) (by first | omega | (simp; done) | (simp; omega) | (simp at *; omega))))))))).mono ?_))
  rintro e wA ⟨A', cap', rfl, hSl, hbwA⟩
  have zA := hbwA.size
  (try simp at zA)
  have x0 : wA.cell? ⟨w.heap.size, 0, none⟩ = some (.int .i64 o) := (by rw [(bcell hbwA).1 _ _ (by first | (simp; done) | (simp; omega) | omega)]; simp [go_sem, World.cell?_alloc_past, *])
  have x1 : wA.cell? ⟨w.heap.size, 1, none⟩ = some (.int .i64 h) := (by rw [(bcell hbwA).1 _ _ (by first | (simp; done) | (simp; omega) | omega)]; simp [go_sem, World.cell?_alloc_past, *])
  have x2 : wA.cell? ⟨w.heap.size, 2, none⟩ = some (.int .i64 s) := (by rw [(bcell hbwA).1 _ _ (by first | (simp; done) | (simp; omega) | omega)]; simp [go_sem, World.cell?_alloc_past, *])
  have x3 : wA.cell? ⟨w.heap.size, 3, none⟩ = some (.int .i64 a) := (by rw [(bcell hbwA).1 _ _ (by first | (simp; done) | (simp; omega) | omega)]; simp [go_sem, World.cell?_alloc_past, *])
  have x4 : wA.cell? ⟨w.heap.size, 4, none⟩ = some (.int .i64 b) := (by rw [(bcell hbwA).1 _ _ (by first | (simp; done) | (simp; omega) | omega)]; simp [go_sem, World.cell?_alloc_past, *])
  have x5 : wA.cell? ⟨w.heap.size + 1, 0, none⟩ = some (.int .i64 lo) := (by rw [(bcell hbwA).1 _ _ (by first | (simp; done) | (simp; omega) | omega)]; simp [go_sem, World.cell?_alloc_past, *])
  have x6 : wA.cell? ⟨w.heap.size + 1, 1, none⟩ = some (.int .i64 hi) := (by rw [(bcell hbwA).1 _ _ (by first | (simp; done) | (simp; omega) | omega)]; simp [go_sem, World.cell?_alloc_past, *])
  have hBA : Below w.heap.size w wA := (by (repeat (first | (with_reducible refine Below.drew ?_) | (with_reducible refine below_drewN ?_ _) | (with_reducible refine Below.alloc ?_ (by first | omega | (simp; done) | (simp; omega) | (simp at *; omega)) _) | (with_reducible refine Below.setCell ?_ (by first | omega | (simp; done) | (simp; omega) | (simp at *; omega)) _) | (with_reducible exact Below.refl _ _) | (with_reducible assumption) | (with_reducible refine Below.trans ?_ (Below.mono (by assumption) (by first | omega | (simp; done) | (simp; omega) | (simp at *; omega)))))))
  have HSl := Lib.hid hSl
  clear hSl
  go_wp2_with fail
  refine hK.out _ _ (by simp [go_sem, World.cell?_alloc_past, *]) (fun hHeld => ?_)
  clear hK K
  try simp only [Act.put, List.setIfInBounds_toArray, List.set_cons_zero, List.set_cons_succ]
  refine wpAnyH_ready (rs := [7]) (by kernel_rfl) (by simp) ?_
  refine AllReadyH.cons rfl (fun K hK => ?_) AllReadyH.nil
  go_simp
  go_at_call 51
  ((with_reducible refine (FirstGap_bad P A' cap' s a b lo hi c _ hl1 (by exact HSl.out.below (by (repeat (first | (with_reducible refine Below.drew ?_) | (with_reducible refine below_drewN ?_ _) | (with_reducible refine Below.alloc ?_ (by first | omega | (simp; done) | (simp; omega) | (simp at *; omega)) _) | (with_reducible refine Below.setCell ?_ (by first | omega | (simp; done) | (simp; omega) | (simp at *; omega)) _) | (with_reducible exact Below.refl _ _) | (with_reducible assumption) | (with_reducible refine Below.trans ?_ (Below.mono (by assumption) (by first | omega | (simp; done) | (simp; omega) | (simp at *; omega)))))))) hE hn).mono ?_))
  rintro e wB ⟨rfl, hbwB⟩
  have zB := hbwB.size
  (try simp at zB)
  have y0 : wB.cell? ⟨w.heap.size, 0, none⟩ = some (.int .i64 o) := (by rw [(bcell hbwB).1 _ _ (by first | (simp; done) | (simp; omega) | omega)]; simp [go_sem, World.cell?_alloc_past, *])
  have y1 : wB.cell? ⟨w.heap.size, 1, none⟩ = some (.int .i64 h) := (by rw [(bcell hbwB).1 _ _ (by first | (simp; done) | (simp; omega) | omega)]; simp [go_sem, World.cell?_alloc_past, *])
  have y2 : wB.cell? ⟨w.heap.size, 2, none⟩ = some (.int .i64 s) := (by rw [(bcell hbwB).1 _ _ (by first | (simp; done) | (simp; omega) | omega)]; simp [go_sem, World.cell?_alloc_past, *])
  have y3 : wB.cell? ⟨w.heap.size, 3, none⟩ = some (.int .i64 a) := (by rw [(bcell hbwB).1 _ _ (by first | (simp; done) | (simp; omega) | omega)]; simp [go_sem, World.cell?_alloc_past, *])
  have y4 : wB.cell? ⟨w.heap.size, 4, none⟩ = some (.int .i64 b) := (by rw [(bcell hbwB).1 _ _ (by first | (simp; done) | (simp; omega) | omega)]; simp [go_sem, World.cell?_alloc_past, *])
  have y5 : wB.cell? ⟨w.heap.size + 1, 0, none⟩ = some (.int .i64 lo) := (by rw [(bcell hbwB).1 _ _ (by first | (simp; done) | (simp; omega) | omega)]; simp [go_sem, World.cell?_alloc_past, *])
  have y6 : wB.cell? ⟨w.heap.size + 1, 1, none⟩ = some (.int .i64 hi) := (by rw [(bcell hbwB).1 _ _ (by first | (simp; done) | (simp; omega) | omega)]; simp [go_sem, World.cell?_alloc_past, *])
  have hBB : Below w.heap.size w wB := (by (repeat (first | (with_reducible refine Below.drew ?_) | (with_reducible refine below_drewN ?_ _) | (with_reducible refine Below.alloc ?_ (by first | omega | (simp; done) | (simp; omega) | (simp at *; omega)) _) | (with_reducible refine Below.setCell ?_ (by first | omega | (simp; done) | (simp; omega) | (simp at *; omega)) _) | (with_reducible exact Below.refl _ _) | (with_reducible assumption) | (with_reducible refine Below.trans ?_ (Below.mono (by assumption) (by first | omega | (simp; done) | (simp; omega) | (simp at *; omega)))))))
  go_wp2_with fail
  refine hK.out _ _ (by simp [go_sem, World.cell?_alloc_past, *]) (fun hHeld => ?_)
  clear hK K
  try simp only [Act.put, List.setIfInBounds_toArray, List.set_cons_zero, List.set_cons_succ]
  refine wpAnyH_take (i := 8) (oi := ⟨some 16, _, _, _, _, _⟩) (v := ?_) rfl (by kernel_rfl) (by kernel_rfl) (by kernel_rfl) (fun _ _ _ h => h) (Or.inl ⟨by kernel_rfl, ?_⟩) (by assumption) ?_
  rotate_left
  · (intro w hSw; (try dsimp only at hSw); go_simp; all_goals with_reducible rfl)
  try simp only [Act.put, List.setIfInBounds_toArray, List.set_cons_zero, List.set_cons_succ]
  refine wpAnyH_take (i := 9) (oi := ⟨some 25, _, _, _, _, _⟩) (v := ?_) rfl (by kernel_rfl) (by kernel_rfl) (by kernel_rfl) (fun _ _ _ h => h) (Or.inl ⟨by kernel_rfl, ?_⟩) (by assumption) ?_
  rotate_left
  · (intro w hSw; (try dsimp only at hSw); go_simp; all_goals with_reducible rfl)
  try simp only [Act.put, List.setIfInBounds_toArray, List.set_cons_zero, List.set_cons_succ]
  refine wpAnyH_take (i := 10) (oi := ⟨some 26, _, _, _, _, _⟩) (v := ?_) rfl (by kernel_rfl) (by kernel_rfl) (by kernel_rfl) (fun _ _ _ h => h) (Or.inl ⟨by kernel_rfl, ?_⟩) (by assumption) ?_
  rotate_left
  · (intro w hSw; (try dsimp only at hSw); go_simp; all_goals with_reducible rfl)
  try simp only [Act.put, List.setIfInBounds_toArray, List.set_cons_zero, List.set_cons_succ]
  refine wpAnyH_take (i := 11) (oi := ⟨some 7, _, _, _, _, _⟩) (v := ?_) rfl (by kernel_rfl) (by kernel_rfl) (by kernel_rfl) (fun _ _ _ h => h) (Or.inl ⟨by kernel_rfl, ?_⟩) (by assumption) ?_
  rotate_left
  · (intro w hSw; (try dsimp only at hSw); go_simp; all_goals with_reducible rfl)
  try simp only [Act.put, List.setIfInBounds_toArray, List.set_cons_zero, List.set_cons_succ]
  refine wpAnyH_take (i := 12) (oi := ⟨some 8, _, _, _, _, _⟩) (v := ?_) rfl (by kernel_rfl) (by kernel_rfl) (by kernel_rfl) (fun _ _ _ h => h) (Or.inl ⟨by kernel_rfl, ?_⟩) (by assumption) ?_
  rotate_left
  · (intro w hSw; (try dsimp only at hSw); go_simp; all_goals with_reducible rfl)
  try simp only [Act.put, List.setIfInBounds_toArray, List.set_cons_zero, List.set_cons_succ]
  refine wpAnyH_done (by kernel_rfl) ?_ _
  clear c1_0 c1_1 c1_2 c1_3 c1_4 c1_5 c1_6 o1_0 n1_0 t1_0_1 t1_0_2 t1_0_3 t1_0_4 t1_0_5 t1_0_6 o1_1 n1_1 t1_1_1 t1_1_2 t1_1_3 t1_1_4 t1_1_5 t1_1_6 hbwA hbwB x0 x1 x2 x3 x4 x5 x6
  have hsB := hBB.size
  have o2_0 : w.heap.size < wB.heap.size := by omega
  have n2_0 : wB.heap.size ≠ w.heap.size := by omega
  have t2_0_1 : w.heap.size < wB.heap.size + 1 := by omega
  have t2_0_2 : w.heap.size < wB.heap.size + 1 + 1 := by omega
  have t2_0_3 : w.heap.size < wB.heap.size + 1 + 1 + 1 := by omega
  have t2_0_4 : w.heap.size < wB.heap.size + 1 + 1 + 1 + 1 := by omega
  have t2_0_5 : w.heap.size < wB.heap.size + 1 + 1 + 1 + 1 + 1 := by omega
  have t2_0_6 : w.heap.size < wB.heap.size + 1 + 1 + 1 + 1 + 1 + 1 := by omega
  have o2_1 : w.heap.size + 1 < wB.heap.size := by omega
  have n2_1 : wB.heap.size ≠ w.heap.size + 1 := by omega
  have t2_1_1 : w.heap.size + 1 < wB.heap.size + 1 := by omega
  have t2_1_2 : w.heap.size + 1 < wB.heap.size + 1 + 1 := by omega
  have t2_1_3 : w.heap.size + 1 < wB.heap.size + 1 + 1 + 1 := by omega
  have t2_1_4 : w.heap.size + 1 < wB.heap.size + 1 + 1 + 1 + 1 := by omega
  have t2_1_5 : w.heap.size + 1 < wB.heap.size + 1 + 1 + 1 + 1 + 1 := by omega
  have t2_1_6 : w.heap.size + 1 < wB.heap.size + 1 + 1 + 1 + 1 + 1 + 1 := by omega
  have b2 : w.heap.size ≤ wB.heap.size := by omega
  go_wp2_with fail
  refine (refCheckGases_is P A cap 0 _ hl1 (by exact HS.out.below (by (repeat (first | (with_reducible refine Below.drew ?_) | (with_reducible refine below_drewN ?_ _) | (with_reducible refine Below.alloc ?_ (by first | omega | (simp; done) | (simp; omega) | (simp at *; omega)) _) | (with_reducible refine Below.setCell ?_ (by first | omega | (simp; done) | (simp; omega) | (simp at *; omega)) _) | (with_reducible exact Below.refl _ _) | (with_reducible assumption) | (with_reducible refine Below.trans ?_ (Below.mono (by assumption) (by first | omega | (simp; done) | (simp; omega) | (simp at *; omega)))))))) hg).mono ?_
  rintro e w3 ⟨rfl, hbw3⟩
  have z3 := hbw3.size
  try simp at z3
  have c3_0 : w3.cell? ⟨w.heap.size, 0, none⟩ = some (.int .i64 o) := by rw [(bcell hbw3).1 _ _ (by first | (simp; done) | (simp; omega) | omega)]; simp [go_sem, World.cell?_alloc_past, *]
  have c3_1 : w3.cell? ⟨w.heap.size, 1, none⟩ = some (.int .i64 h) := by rw [(bcell hbw3).1 _ _ (by first | (simp; done) | (simp; omega) | omega)]; simp [go_sem, World.cell?_alloc_past, *]
  have c3_2 : w3.cell? ⟨w.heap.size, 2, none⟩ = some (.int .i64 s) := by rw [(bcell hbw3).1 _ _ (by first | (simp; done) | (simp; omega) | omega)]; simp [go_sem, World.cell?_alloc_past, *]
  have c3_3 : w3.cell? ⟨w.heap.size, 3, none⟩ = some (.int .i64 a) := by rw [(bcell hbw3).1 _ _ (by first | (simp; done) | (simp; omega) | omega)]; simp [go_sem, World.cell?_alloc_past, *]
  have c3_4 : w3.cell? ⟨w.heap.size, 4, none⟩ = some (.int .i64 b) := by rw [(bcell hbw3).1 _ _ (by first | (simp; done) | (simp; omega) | omega)]; simp [go_sem, World.cell?_alloc_past, *]
  have c3_5 : w3.cell? ⟨w.heap.size + 1, 0, none⟩ = some (.int .i64 lo) := by rw [(bcell hbw3).1 _ _ (by first | (simp; done) | (simp; omega) | omega)]; simp [go_sem, World.cell?_alloc_past, *]
  have c3_6 : w3.cell? ⟨w.heap.size + 1, 1, none⟩ = some (.int .i64 hi) := by rw [(bcell hbw3).1 _ _ (by first | (simp; done) | (simp; omega) | omega)]; simp [go_sem, World.cell?_alloc_past, *]
  have hB3 : Below w.heap.size w w3 := (by (repeat (first | (with_reducible refine Below.drew ?_) | (with_reducible refine below_drewN ?_ _) | (with_reducible refine Below.alloc ?_ (by first | omega | (simp; done) | (simp; omega) | (simp at *; omega)) _) | (with_reducible refine Below.setCell ?_ (by first | omega | (simp; done) | (simp; omega) | (simp at *; omega)) _) | (with_reducible exact Below.refl _ _) | (with_reducible assumption) | (with_reducible refine Below.trans ?_ (Below.mono (by assumption) (by first | omega | (simp; done) | (simp; omega) | (simp at *; omega)))))))
  clear y0 y1 y2 y3 y4 y5 y6 o2_0 n2_0 t2_0_1 t2_0_2 t2_0_3 t2_0_4 t2_0_5 t2_0_6 o2_1 n2_1 t2_1_1 t2_1_2 t2_1_3 t2_1_4 t2_1_5 t2_1_6
  have o3_0 : w.heap.size < w3.heap.size := by omega
  have n3_0 : w3.heap.size ≠ w.heap.size := by omega
  have t3_0_1 : w.heap.size < w3.heap.size + 1 := by omega
  have t3_0_2 : w.heap.size < w3.heap.size + 1 + 1 := by omega
  have t3_0_3 : w.heap.size < w3.heap.size + 1 + 1 + 1 := by omega
  have t3_0_4 : w.heap.size < w3.heap.size + 1 + 1 + 1 + 1 := by omega
  have t3_0_5 : w.heap.size < w3.heap.size + 1 + 1 + 1 + 1 + 1 := by omega
  have t3_0_6 : w.heap.size < w3.heap.size + 1 + 1 + 1 + 1 + 1 + 1 := by omega
  have o3_1 : w.heap.size + 1 < w3.heap.size := by omega
  have n3_1 : w3.heap.size ≠ w.heap.size + 1 := by omega
  have t3_1_1 : w.heap.size + 1 < w3.heap.size + 1 := by omega
  have t3_1_2 : w.heap.size + 1 < w3.heap.size + 1 + 1 := by omega
  have t3_1_3 : w.heap.size + 1 < w3.heap.size + 1 + 1 + 1 := by omega
  have t3_1_4 : w.heap.size + 1 < w3.heap.size + 1 + 1 + 1 + 1 := by omega
  have t3_1_5 : w.heap.size + 1 < w3.heap.size + 1 + 1 + 1 + 1 + 1 := by omega
  have t3_1_6 : w.heap.size + 1 < w3.heap.size + 1 + 1 + 1 + 1 + 1 + 1 := by omega
  have b3 : w.heap.size ≤ w3.heap.size := by omega
  clear hbw3
  go_wp2_with (first | (go_at_call 25; ((with_reducible refine (CheckPlace_c s 0 0 _ hs).mono ?_)); rintro e w' ⟨rfl, rfl⟩) | (go_at_call 31; ((with_reducible refine (refCheckLimits_c _ _ 0 _ hli).mono ?_)); rintro e w' ⟨rfl, rfl⟩) | (go_at_call 52; ((with_reducible refine (refCheckDepths_c _ _ c _ hd).mono ?_)); rintro e w' ⟨rfl, rfl⟩))
  go_ret
  exact ⟨by first | rfl | (simp; done) | (apply ret_bool; simp; omega), (by (repeat (first | (with_reducible refine Below.drew ?_) | (with_reducible refine below_drewN ?_ _) | (with_reducible refine Below.alloc ?_ (by first | omega | (simp; done) | (simp; omega) | (simp at *; omega)) _) | (with_reducible refine Below.setCell ?_ (by first | omega | (simp; done) | (simp; omega) | (simp at *; omega)) _) | (with_reducible exact Below.refl _ _) | (with_reducible assumption) | (with_reducible refine Below.trans ?_ (Below.mono (by assumption) (by first | omega | (simp; done) | (simp; omega) | (simp at *; omega)))))))⟩
set_option maxRecDepth 100000 in
set_option maxHeartbeats 4000000 in
theorem plaw_k (P : List Gs) (A : Option Addr) (cap : Nat) (o h s a b lo hi : Int) (w : World) (m : Int) (hm : w.cell? ⟨1, 0, none⟩ = some (.int .i64 m)) (hl : P.length ≤ 9223372036854775807) (hx : Hid (decide (P.length ≤ 11) = true)) (hl1 : P.length ≤ 1000000) (hA : A = none → cap = 0) (HS : Hid (SlAt w A P)) (g : Int) (hE : Hid (gapE P s a b lo hi = 0)) (hG : Hid (IsGap P s a b lo hi g)) (hg0 : 0 ≤ g) (hg : Hid (gasesE P = 0)) (hs : Hid (plE s 0 = 0)) (hli : Hid (limE a b = 0)) (hd : Hid (rdE lo hi = 0))  :
    Calls Tryd.prog 13 #[.slice A P.length cap, .agg #[.int .i64 o, .int .i64 h, .int .i64 s, .int .i64 a, .int .i64 b], .agg #[.int .i64 lo, .int .i64 hi]] w fun e w' => e = .returned (.bool true) ∧ Below w.heap.size w w' := by
  have hlm := World.block_lt_of_cell? _ _ hm
  have hne : w.heap.size ≠ 1 := by simp at hlm; omega
  have hl2 : 1 < w.heap.size := by simpa using hlm
  clear hlm
  have HA := Lib.hid hA
  clear hA
  go_enter Tryd.func13, Tryd.ntmps13
  go_wp2_with fail
  refine (awake_any _ m (by exact oldCell3 (by (repeat (first | (with_reducible refine Below.drew ?_) | (with_reducible refine below_drewN ?_ _) | (with_reducible refine Below.alloc ?_ (by first | omega | (simp; done) | (simp; omega) | (simp at *; omega)) _) | (with_reducible refine Below.setCell ?_ (by first | omega | (simp; done) | (simp; omega) | (simp at *; omega)) _) | (with_reducible exact Below.refl _ _) | (with_reducible assumption) | (with_reducible refine Below.trans ?_ (Below.mono (by assumption) (by first | omega | (simp; done) | (simp; omega) | (simp at *; omega))))))) hm)).mono ?_
  rintro e w1 ⟨rfl, hbw1⟩
  have z1 := hbw1.size
  try simp at z1
  have c1_0 : w1.cell? ⟨w.heap.size, 0, none⟩ = some (.int .i64 o) := by rw [(bcell hbw1).1 _ _ (by first | (simp; done) | (simp; omega) | omega)]; simp [go_sem, World.cell?_alloc_past, *]
  have c1_1 : w1.cell? ⟨w.heap.size, 1, none⟩ = some (.int .i64 h) := by rw [(bcell hbw1).1 _ _ (by first | (simp; done) | (simp; omega) | omega)]; simp [go_sem, World.cell?_alloc_past, *]
  have c1_2 : w1.cell? ⟨w.heap.size, 2, none⟩ = some (.int .i64 s) := by rw [(bcell hbw1).1 _ _ (by first | (simp; done) | (simp; omega) | omega)]; simp [go_sem, World.cell?_alloc_past, *]
  have c1_3 : w1.cell? ⟨w.heap.size, 3, none⟩ = some (.int .i64 a) := by rw [(bcell hbw1).1 _ _ (by first | (simp; done) | (simp; omega) | omega)]; simp [go_sem, World.cell?_alloc_past, *]
  have c1_4 : w1.cell? ⟨w.heap.size, 4, none⟩ = some (.int .i64 b) := by rw [(bcell hbw1).1 _ _ (by first | (simp; done) | (simp; omega) | omega)]; simp [go_sem, World.cell?_alloc_past, *]
  have c1_5 : w1.cell? ⟨w.heap.size + 1, 0, none⟩ = some (.int .i64 lo) := by rw [(bcell hbw1).1 _ _ (by first | (simp; done) | (simp; omega) | omega)]; simp [go_sem, World.cell?_alloc_past, *]
  have c1_6 : w1.cell? ⟨w.heap.size + 1, 1, none⟩ = some (.int .i64 hi) := by rw [(bcell hbw1).1 _ _ (by first | (simp; done) | (simp; omega) | omega)]; simp [go_sem, World.cell?_alloc_past, *]
  have hB1 : Below w.heap.size w w1 := (by (repeat (first | (with_reducible refine Below.drew ?_) | (with_reducible refine below_drewN ?_ _) | (with_reducible refine Below.alloc ?_ (by first | omega | (simp; done) | (simp; omega) | (simp at *; omega)) _) | (with_reducible refine Below.setCell ?_ (by first | omega | (simp; done) | (simp; omega) | (simp at *; omega)) _) | (with_reducible exact Below.refl _ _) | (with_reducible assumption) | (with_reducible refine Below.trans ?_ (Below.mono (by assumption) (by first | omega | (simp; done) | (simp; omega) | (simp at *; omega)))))))
  have o1_0 : w.heap.size < w1.heap.size := by omega
  have n1_0 : w1.heap.size ≠ w.heap.size := by omega
  have t1_0_1 : w.heap.size < w1.heap.size + 1 := by omega
  have t1_0_2 : w.heap.size < w1.heap.size + 1 + 1 := by omega
  have t1_0_3 : w.heap.size < w1.heap.size + 1 + 1 + 1 := by omega
  have t1_0_4 : w.heap.size < w1.heap.size + 1 + 1 + 1 + 1 := by omega
  have t1_0_5 : w.heap.size < w1.heap.size + 1 + 1 + 1 + 1 + 1 := by omega
  have t1_0_6 : w.heap.size < w1.heap.size + 1 + 1 + 1 + 1 + 1 + 1 := by omega
  have o1_1 : w.heap.size + 1 < w1.heap.size := by omega
  have n1_1 : w1.heap.size ≠ w.heap.size + 1 := by omega
  have t1_1_1 : w.heap.size + 1 < w1.heap.size + 1 := by omega
  have t1_1_2 : w.heap.size + 1 < w1.heap.size + 1 + 1 := by omega
  have t1_1_3 : w.heap.size + 1 < w1.heap.size + 1 + 1 + 1 := by omega
  have t1_1_4 : w.heap.size + 1 < w1.heap.size + 1 + 1 + 1 + 1 := by omega
  have t1_1_5 : w.heap.size + 1 < w1.heap.size + 1 + 1 + 1 + 1 + 1 := by omega
  have t1_1_6 : w.heap.size + 1 < w1.heap.size + 1 + 1 + 1 + 1 + 1 + 1 := by omega
  have b1 : w.heap.size ≤ w1.heap.size := by omega
  clear hbw1
  go_wp2_with ((go_at_call 47; ((with_reducible refine (many_any A P.length cap _ true hx hl).mono ?_)); rintro e w' ⟨rfl, rfl⟩))
  refine wp_region_held_drew (S := (fun w' => w'.cell? ⟨w.heap.size, 0, none⟩ = some (.int .i64 o) ∧ w'.cell? ⟨w.heap.size, 1, none⟩ = some (.int .i64 h) ∧ w'.cell? ⟨w.heap.size, 2, none⟩ = some (.int .i64 s) ∧ w'.cell? ⟨w.heap.size, 3, none⟩ = some (.int .i64 a) ∧ w'.cell? ⟨w.heap.size, 4, none⟩ = some (.int .i64 b) ∧ w'.cell? ⟨w.heap.size + 1, 0, none⟩ = some (.int .i64 lo) ∧ w'.cell? ⟨w.heap.size + 1, 1, none⟩ = some (.int .i64 hi))) (by kernel_rfl) (by simp [go_sem, World.cell?_alloc_past, *]) (fun hHeld => ?_)
  refine wpAnyH_take (i := 0) (oi := ⟨some 17, _, _, _, _, _⟩) (v := ?_) rfl (by kernel_rfl) (by kernel_rfl) (by kernel_rfl) (fun _ _ _ h => h) (Or.inl ⟨by kernel_rfl, ?_⟩) (by assumption) ?_
  rotate_left
  · (intro w hSw; (try dsimp only at hSw); go_simp; all_goals with_reducible rfl)
  try simp only [Act.put, List.setIfInBounds_toArray, List.set_cons_zero, List.set_cons_succ]
  refine wpAnyH_take (i := 2) (oi := ⟨some 19, _, _, _, _, _⟩) (v := ?_) rfl (by kernel_rfl) (by kernel_rfl) (by kernel_rfl) (fun _ _ _ h => h) (Or.inl ⟨by kernel_rfl, ?_⟩) (by assumption) ?_
  rotate_left
  · (intro w hSw; (try dsimp only at hSw); go_simp; all_goals with_reducible rfl)
  try simp only [Act.put, List.setIfInBounds_toArray, List.set_cons_zero, List.set_cons_succ]
  refine wpAnyH_take (i := 3) (oi := ⟨some 20, _, _, _, _, _⟩) (v := ?_) rfl (by kernel_rfl) (by kernel_rfl) (by kernel_rfl) (fun _ _ _ h => h) (Or.inl ⟨by kernel_rfl, ?_⟩) (by assumption) ?_
  rotate_left
  · (intro w hSw; (try dsimp only at hSw); go_simp; all_goals with_reducible rfl)
  try simp only [Act.put, List.setIfInBounds_toArray, List.set_cons_zero, List.set_cons_succ]
  refine wpAnyH_take (i := 4) (oi := ⟨some 21, _, _, _, _, _⟩) (v := ?_) rfl (by kernel_rfl) (by kernel_rfl) (by kernel_rfl) (fun _ _ _ h => h) (Or.inl ⟨by kernel_rfl, ?_⟩) (by assumption) ?_
  rotate_left
  · (intro w hSw; (try dsimp only at hSw); go_simp; all_goals with_reducible rfl)
  try simp only [Act.put, List.setIfInBounds_toArray, List.set_cons_zero, List.set_cons_succ]
  refine wpAnyH_take (i := 5) (oi := ⟨some 22, _, _, _, _, _⟩) (v := ?_) rfl (by kernel_rfl) (by kernel_rfl) (by kernel_rfl) (fun _ _ _ h => h) (Or.inl ⟨by kernel_rfl, ?_⟩) (by assumption) ?_
  rotate_left
  · (intro w hSw; (try dsimp only at hSw); go_simp; all_goals with_reducible rfl)
  try simp only [Act.put, List.setIfInBounds_toArray, List.set_cons_zero, List.set_cons_succ]
  refine wpAnyH_take (i := 6) (oi := ⟨some 23, _, _, _, _, _⟩) (v := ?_) rfl (by kernel_rfl) (by kernel_rfl) (by kernel_rfl) (fun _ _ _ h => h) (Or.inl ⟨by kernel_rfl, ?_⟩) (by assumption) ?_
  rotate_left
  · (intro w hSw; (try dsimp only at hSw); go_simp; all_goals with_reducible rfl)
  try simp only [Act.put, List.setIfInBounds_toArray, List.set_cons_zero, List.set_cons_succ]
  refine wpAnyH_ready (rs := [1]) (by kernel_rfl) (by simp) ?_
  refine AllReadyH.cons rfl (fun K hK => ?_) AllReadyH.nil
  go_simp
  go_at_call 48
  ((with_reducible refine (CopyGases_any P A cap _ hl1 HA.out (by exact HS.out.below (by (repeat (first | (with_reducible refine Below.drew ?_) | (with_reducible refine below_drewN ?_ _) | (with_reducible refine Below.alloc ?_ (by first | omega | (simp; done) | (simp; omega) | (simp at *; omega)) _) | (with_reducible refine Below.setCell ?_ (by first | omega | (simp; done) | (simp; omega) | (simp at *; omega)) _) | (with_reducible exact Below.refl _ _) | (with_reducible assumption) | (with_reducible refine Below.trans ?_ (Below.mono (by assumption) (by first | omega | (simp; done) | (simp; omega) | (simp at *; omega))))))))).mono ?_))
  rintro e wA ⟨A', cap', rfl, hSl, hbwA⟩
  have zA := hbwA.size
  (try simp at zA)
  have x0 : wA.cell? ⟨w.heap.size, 0, none⟩ = some (.int .i64 o) := (by rw [(bcell hbwA).1 _ _ (by first | (simp; done) | (simp; omega) | omega)]; simp [go_sem, World.cell?_alloc_past, *])
  have x1 : wA.cell? ⟨w.heap.size, 1, none⟩ = some (.int .i64 h) := (by rw [(bcell hbwA).1 _ _ (by first | (simp; done) | (simp; omega) | omega)]; simp [go_sem, World.cell?_alloc_past, *])
  have x2 : wA.cell? ⟨w.heap.size, 2, none⟩ = some (.int .i64 s) := (by rw [(bcell hbwA).1 _ _ (by first | (simp; done) | (simp; omega) | omega)]; simp [go_sem, World.cell?_alloc_past, *])
  have x3 : wA.cell? ⟨w.heap.size, 3, none⟩ = some (.int .i64 a) := (by rw [(bcell hbwA).1 _ _ (by first | (simp; done) | (simp; omega) | omega)]; simp [go_sem, World.cell?_alloc_past, *])
  have x4 : wA.cell? ⟨w.heap.size, 4, none⟩ = some (.int .i64 b) := (by rw [(bcell hbwA).1 _ _ (by first | (simp; done) | (simp; omega) | omega)]; simp [go_sem, World.cell?_alloc_past, *])
  have x5 : wA.cell? ⟨w.heap.size + 1, 0, none⟩ = some (.int .i64 lo) := (by rw [(bcell hbwA).1 _ _ (by first | (simp; done) | (simp; omega) | omega)]; simp [go_sem, World.cell?_alloc_past, *])
  have x6 : wA.cell? ⟨w.heap.size + 1, 1, none⟩ = some (.int .i64 hi) := (by rw [(bcell hbwA).1 _ _ (by first | (simp; done) | (simp; omega) | omega)]; simp [go_sem, World.cell?_alloc_past, *])
  have hBA : Below w.heap.size w wA := (by (repeat (first | (with_reducible refine Below.drew ?_) | (with_reducible refine below_drewN ?_ _) | (with_reducible refine Below.alloc ?_ (by first | omega | (simp; done) | (simp; omega) | (simp at *; omega)) _) | (with_reducible refine Below.setCell ?_ (by first | omega | (simp; done) | (simp; omega) | (simp at *; omega)) _) | (with_reducible exact Below.refl _ _) | (with_reducible assumption) | (with_reducible refine Below.trans ?_ (Below.mono (by assumption) (by first | omega | (simp; done) | (simp; omega) | (simp at *; omega)))))))
  have HSl := Lib.hid hSl
  clear hSl
  go_wp2_with fail
  refine hK.out _ _ (by simp [go_sem, World.cell?_alloc_past, *]) (fun hHeld => ?_)
  clear hK K
  try simp only [Act.put, List.setIfInBounds_toArray, List.set_cons_zero, List.set_cons_succ]
  refine wpAnyH_ready (rs := [7]) (by kernel_rfl) (by simp) ?_
  refine AllReadyH.cons rfl (fun K hK => ?_) AllReadyH.nil
  go_simp
  go_at_call 51
  ((with_reducible refine (FirstGap_gap P A' cap' s a b lo hi g _ hl1 (by exact HSl.out.below (by (repeat (first | (with_reducible refine Below.drew ?_) | (with_reducible refine below_drewN ?_ _) | (with_reducible refine Below.alloc ?_ (by first | omega | (simp; done) | (simp; omega) | (simp at *; omega)) _) | (with_reducible refine Below.setCell ?_ (by first | omega | (simp; done) | (simp; omega) | (simp at *; omega)) _) | (with_reducible exact Below.refl _ _) | (with_reducible assumption) | (with_reducible refine Below.trans ?_ (Below.mono (by assumption) (by first | omega | (simp; done) | (simp; omega) | (simp at *; omega)))))))) hE hG).mono ?_))
  rintro e wB ⟨rfl, hbwB⟩
  have zB := hbwB.size
  (try simp at zB)
  have y0 : wB.cell? ⟨w.heap.size, 0, none⟩ = some (.int .i64 o) := (by rw [(bcell hbwB).1 _ _ (by first | (simp; done) | (simp; omega) | omega)]; simp [go_sem, World.cell?_alloc_past, *])
  have y1 : wB.cell? ⟨w.heap.size, 1, none⟩ = some (.int .i64 h) := (by rw [(bcell hbwB).1 _ _ (by first | (simp; done) | (simp; omega) | omega)]; simp [go_sem, World.cell?_alloc_past, *])
  have y2 : wB.cell? ⟨w.heap.size, 2, none⟩ = some (.int .i64 s) := (by rw [(bcell hbwB).1 _ _ (by first | (simp; done) | (simp; omega) | omega)]; simp [go_sem, World.cell?_alloc_past, *])
  have y3 : wB.cell? ⟨w.heap.size, 3, none⟩ = some (.int .i64 a) := (by rw [(bcell hbwB).1 _ _ (by first | (simp; done) | (simp; omega) | omega)]; simp [go_sem, World.cell?_alloc_past, *])
  have y4 : wB.cell? ⟨w.heap.size, 4, none⟩ = some (.int .i64 b) := (by rw [(bcell hbwB).1 _ _ (by first | (simp; done) | (simp; omega) | omega)]; simp [go_sem, World.cell?_alloc_past, *])
  have y5 : wB.cell? ⟨w.heap.size + 1, 0, none⟩ = some (.int .i64 lo) := (by rw [(bcell hbwB).1 _ _ (by first | (simp; done) | (simp; omega) | omega)]; simp [go_sem, World.cell?_alloc_past, *])
  have y6 : wB.cell? ⟨w.heap.size + 1, 1, none⟩ = some (.int .i64 hi) := (by rw [(bcell hbwB).1 _ _ (by first | (simp; done) | (simp; omega) | omega)]; simp [go_sem, World.cell?_alloc_past, *])
  have hBB : Below w.heap.size w wB := (by (repeat (first | (with_reducible refine Below.drew ?_) | (with_reducible refine below_drewN ?_ _) | (with_reducible refine Below.alloc ?_ (by first | omega | (simp; done) | (simp; omega) | (simp at *; omega)) _) | (with_reducible refine Below.setCell ?_ (by first | omega | (simp; done) | (simp; omega) | (simp at *; omega)) _) | (with_reducible exact Below.refl _ _) | (with_reducible assumption) | (with_reducible refine Below.trans ?_ (Below.mono (by assumption) (by first | omega | (simp; done) | (simp; omega) | (simp at *; omega)))))))
  go_wp2_with fail
  refine hK.out _ _ (by simp [go_sem, World.cell?_alloc_past, *]) (fun hHeld => ?_)
  clear hK K
  try simp only [Act.put, List.setIfInBounds_toArray, List.set_cons_zero, List.set_cons_succ]
  refine wpAnyH_take (i := 8) (oi := ⟨some 16, _, _, _, _, _⟩) (v := ?_) rfl (by kernel_rfl) (by kernel_rfl) (by kernel_rfl) (fun _ _ _ h => h) (Or.inl ⟨by kernel_rfl, ?_⟩) (by assumption) ?_
  rotate_left
  · (intro w hSw; (try dsimp only at hSw); go_simp; all_goals with_reducible rfl)
  try simp only [Act.put, List.setIfInBounds_toArray, List.set_cons_zero, List.set_cons_succ]
  refine wpAnyH_take (i := 9) (oi := ⟨some 25, _, _, _, _, _⟩) (v := ?_) rfl (by kernel_rfl) (by kernel_rfl) (by kernel_rfl) (fun _ _ _ h => h) (Or.inl ⟨by kernel_rfl, ?_⟩) (by assumption) ?_
  rotate_left
  · (intro w hSw; (try dsimp only at hSw); go_simp; all_goals with_reducible rfl)
  try simp only [Act.put, List.setIfInBounds_toArray, List.set_cons_zero, List.set_cons_succ]
  refine wpAnyH_take (i := 10) (oi := ⟨some 26, _, _, _, _, _⟩) (v := ?_) rfl (by kernel_rfl) (by kernel_rfl) (by kernel_rfl) (fun _ _ _ h => h) (Or.inl ⟨by kernel_rfl, ?_⟩) (by assumption) ?_
  rotate_left
  · (intro w hSw; (try dsimp only at hSw); go_simp; all_goals with_reducible rfl)
  try simp only [Act.put, List.setIfInBounds_toArray, List.set_cons_zero, List.set_cons_succ]
  refine wpAnyH_take (i := 11) (oi := ⟨some 7, _, _, _, _, _⟩) (v := ?_) rfl (by kernel_rfl) (by kernel_rfl) (by kernel_rfl) (fun _ _ _ h => h) (Or.inl ⟨by kernel_rfl, ?_⟩) (by assumption) ?_
  rotate_left
  · (intro w hSw; (try dsimp only at hSw); go_simp; all_goals with_reducible rfl)
  try simp only [Act.put, List.setIfInBounds_toArray, List.set_cons_zero, List.set_cons_succ]
  refine wpAnyH_take (i := 12) (oi := ⟨some 8, _, _, _, _, _⟩) (v := ?_) rfl (by kernel_rfl) (by kernel_rfl) (by kernel_rfl) (fun _ _ _ h => h) (Or.inl ⟨by kernel_rfl, ?_⟩) (by assumption) ?_
  rotate_left
  · (intro w hSw; (try dsimp only at hSw); go_simp; all_goals with_reducible rfl)
  try simp only [Act.put, List.setIfInBounds_toArray, List.set_cons_zero, List.set_cons_succ]
  refine wpAnyH_done (by kernel_rfl) ?_ _
  clear c1_0 c1_1 c1_2 c1_3 c1_4 c1_5 c1_6 o1_0 n1_0 t1_0_1 t1_0_2 t1_0_3 t1_0_4 t1_0_5 t1_0_6 o1_1 n1_1 t1_1_1 t1_1_2 t1_1_3 t1_1_4 t1_1_5 t1_1_6 hbwA hbwB x0 x1 x2 x3 x4 x5 x6
  have hsB := hBB.size
  have o2_0 : w.heap.size < wB.heap.size := by omega
  have n2_0 : wB.heap.size ≠ w.heap.size := by omega
  have t2_0_1 : w.heap.size < wB.heap.size + 1 := by omega
  have t2_0_2 : w.heap.size < wB.heap.size + 1 + 1 := by omega
  have t2_0_3 : w.heap.size < wB.heap.size + 1 + 1 + 1 := by omega
  have t2_0_4 : w.heap.size < wB.heap.size + 1 + 1 + 1 + 1 := by omega
  have t2_0_5 : w.heap.size < wB.heap.size + 1 + 1 + 1 + 1 + 1 := by omega
  have t2_0_6 : w.heap.size < wB.heap.size + 1 + 1 + 1 + 1 + 1 + 1 := by omega
  have o2_1 : w.heap.size + 1 < wB.heap.size := by omega
  have n2_1 : wB.heap.size ≠ w.heap.size + 1 := by omega
  have t2_1_1 : w.heap.size + 1 < wB.heap.size + 1 := by omega
  have t2_1_2 : w.heap.size + 1 < wB.heap.size + 1 + 1 := by omega
  have t2_1_3 : w.heap.size + 1 < wB.heap.size + 1 + 1 + 1 := by omega
  have t2_1_4 : w.heap.size + 1 < wB.heap.size + 1 + 1 + 1 + 1 := by omega
  have t2_1_5 : w.heap.size + 1 < wB.heap.size + 1 + 1 + 1 + 1 + 1 := by omega
  have t2_1_6 : w.heap.size + 1 < wB.heap.size + 1 + 1 + 1 + 1 + 1 + 1 := by omega
  have b2 : w.heap.size ≤ wB.heap.size := by omega
  go_wp2_with fail
  refine (refCheckGases_is P A cap 0 _ hl1 (by exact HS.out.below (by (repeat (first | (with_reducible refine Below.drew ?_) | (with_reducible refine below_drewN ?_ _) | (with_reducible refine Below.alloc ?_ (by first | omega | (simp; done) | (simp; omega) | (simp at *; omega)) _) | (with_reducible refine Below.setCell ?_ (by first | omega | (simp; done) | (simp; omega) | (simp at *; omega)) _) | (with_reducible exact Below.refl _ _) | (with_reducible assumption) | (with_reducible refine Below.trans ?_ (Below.mono (by assumption) (by first | omega | (simp; done) | (simp; omega) | (simp at *; omega)))))))) hg).mono ?_
  rintro e w3 ⟨rfl, hbw3⟩
  have z3 := hbw3.size
  try simp at z3
  have c3_0 : w3.cell? ⟨w.heap.size, 0, none⟩ = some (.int .i64 o) := by rw [(bcell hbw3).1 _ _ (by first | (simp; done) | (simp; omega) | omega)]; simp [go_sem, World.cell?_alloc_past, *]
  have c3_1 : w3.cell? ⟨w.heap.size, 1, none⟩ = some (.int .i64 h) := by rw [(bcell hbw3).1 _ _ (by first | (simp; done) | (simp; omega) | omega)]; simp [go_sem, World.cell?_alloc_past, *]
  have c3_2 : w3.cell? ⟨w.heap.size, 2, none⟩ = some (.int .i64 s) := by rw [(bcell hbw3).1 _ _ (by first | (simp; done) | (simp; omega) | omega)]; simp [go_sem, World.cell?_alloc_past, *]
  have c3_3 : w3.cell? ⟨w.heap.size, 3, none⟩ = some (.int .i64 a) := by rw [(bcell hbw3).1 _ _ (by first | (simp; done) | (simp; omega) | omega)]; simp [go_sem, World.cell?_alloc_past, *]
  have c3_4 : w3.cell? ⟨w.heap.size, 4, none⟩ = some (.int .i64 b) := by rw [(bcell hbw3).1 _ _ (by first | (simp; done) | (simp; omega) | omega)]; simp [go_sem, World.cell?_alloc_past, *]
  have c3_5 : w3.cell? ⟨w.heap.size + 1, 0, none⟩ = some (.int .i64 lo) := by rw [(bcell hbw3).1 _ _ (by first | (simp; done) | (simp; omega) | omega)]; simp [go_sem, World.cell?_alloc_past, *]
  have c3_6 : w3.cell? ⟨w.heap.size + 1, 1, none⟩ = some (.int .i64 hi) := by rw [(bcell hbw3).1 _ _ (by first | (simp; done) | (simp; omega) | omega)]; simp [go_sem, World.cell?_alloc_past, *]
  have hB3 : Below w.heap.size w w3 := (by (repeat (first | (with_reducible refine Below.drew ?_) | (with_reducible refine below_drewN ?_ _) | (with_reducible refine Below.alloc ?_ (by first | omega | (simp; done) | (simp; omega) | (simp at *; omega)) _) | (with_reducible refine Below.setCell ?_ (by first | omega | (simp; done) | (simp; omega) | (simp at *; omega)) _) | (with_reducible exact Below.refl _ _) | (with_reducible assumption) | (with_reducible refine Below.trans ?_ (Below.mono (by assumption) (by first | omega | (simp; done) | (simp; omega) | (simp at *; omega)))))))
  clear y0 y1 y2 y3 y4 y5 y6 o2_0 n2_0 t2_0_1 t2_0_2 t2_0_3 t2_0_4 t2_0_5 t2_0_6 o2_1 n2_1 t2_1_1 t2_1_2 t2_1_3 t2_1_4 t2_1_5 t2_1_6
  have o3_0 : w.heap.size < w3.heap.size := by omega
  have n3_0 : w3.heap.size ≠ w.heap.size := by omega
  have t3_0_1 : w.heap.size < w3.heap.size + 1 := by omega
  have t3_0_2 : w.heap.size < w3.heap.size + 1 + 1 := by omega
  have t3_0_3 : w.heap.size < w3.heap.size + 1 + 1 + 1 := by omega
  have t3_0_4 : w.heap.size < w3.heap.size + 1 + 1 + 1 + 1 := by omega
  have t3_0_5 : w.heap.size < w3.heap.size + 1 + 1 + 1 + 1 + 1 := by omega
  have t3_0_6 : w.heap.size < w3.heap.size + 1 + 1 + 1 + 1 + 1 + 1 := by omega
  have o3_1 : w.heap.size + 1 < w3.heap.size := by omega
  have n3_1 : w3.heap.size ≠ w.heap.size + 1 := by omega
  have t3_1_1 : w.heap.size + 1 < w3.heap.size + 1 := by omega
  have t3_1_2 : w.heap.size + 1 < w3.heap.size + 1 + 1 := by omega
  have t3_1_3 : w.heap.size + 1 < w3.heap.size + 1 + 1 + 1 := by omega
  have t3_1_4 : w.heap.size + 1 < w3.heap.size + 1 + 1 + 1 + 1 := by omega
  have t3_1_5 : w.heap.size + 1 < w3.heap.size + 1 + 1 + 1 + 1 + 1 := by omega
  have t3_1_6 : w.heap.size + 1 < w3.heap.size + 1 + 1 + 1 + 1 + 1 + 1 := by omega
  have b3 : w.heap.size ≤ w3.heap.size := by omega
  clear hbw3
  go_wp2_with (first | (go_at_call 25; ((with_reducible refine (CheckPlace_c s 0 0 _ hs).mono ?_)); rintro e w' ⟨rfl, rfl⟩) | (go_at_call 31; ((with_reducible refine (refCheckLimits_c _ _ 0 _ hli).mono ?_)); rintro e w' ⟨rfl, rfl⟩) | (go_at_call 52; ((with_reducible refine (refCheckDepths_c _ _ 0 _ hd).mono ?_)); rintro e w' ⟨rfl, rfl⟩))
  refine (refFirstGap_any P A cap s a b lo hi _ hl1 (by exact HS.out.below (by (repeat (first | (with_reducible refine Below.drew ?_) | (with_reducible refine below_drewN ?_ _) | (with_reducible refine Below.alloc ?_ (by first | omega | (simp; done) | (simp; omega) | (simp at *; omega)) _) | (with_reducible refine Below.setCell ?_ (by first | omega | (simp; done) | (simp; omega) | (simp at *; omega)) _) | (with_reducible exact Below.refl _ _) | (with_reducible assumption) | (with_reducible refine Below.trans ?_ (Below.mono (by assumption) (by first | omega | (simp; done) | (simp; omega) | (simp at *; omega)))))))) hE g (Or.inl hG.out)).mono ?_
  rintro e w4 ⟨rfl, hbw4⟩
  have z4 := hbw4.size
  try simp at z4
  have c4_0 : w4.cell? ⟨w.heap.size, 0, none⟩ = some (.int .i64 o) := by rw [(bcell hbw4).1 _ _ (by first | (simp; done) | (simp; omega) | omega)]; simp [go_sem, World.cell?_alloc_past, *]
  have c4_1 : w4.cell? ⟨w.heap.size, 1, none⟩ = some (.int .i64 h) := by rw [(bcell hbw4).1 _ _ (by first | (simp; done) | (simp; omega) | omega)]; simp [go_sem, World.cell?_alloc_past, *]
  have c4_2 : w4.cell? ⟨w.heap.size, 2, none⟩ = some (.int .i64 s) := by rw [(bcell hbw4).1 _ _ (by first | (simp; done) | (simp; omega) | omega)]; simp [go_sem, World.cell?_alloc_past, *]
  have c4_3 : w4.cell? ⟨w.heap.size, 3, none⟩ = some (.int .i64 a) := by rw [(bcell hbw4).1 _ _ (by first | (simp; done) | (simp; omega) | omega)]; simp [go_sem, World.cell?_alloc_past, *]
  have c4_4 : w4.cell? ⟨w.heap.size, 4, none⟩ = some (.int .i64 b) := by rw [(bcell hbw4).1 _ _ (by first | (simp; done) | (simp; omega) | omega)]; simp [go_sem, World.cell?_alloc_past, *]
  have c4_5 : w4.cell? ⟨w.heap.size + 1, 0, none⟩ = some (.int .i64 lo) := by rw [(bcell hbw4).1 _ _ (by first | (simp; done) | (simp; omega) | omega)]; simp [go_sem, World.cell?_alloc_past, *]
  have c4_6 : w4.cell? ⟨w.heap.size + 1, 1, none⟩ = some (.int .i64 hi) := by rw [(bcell hbw4).1 _ _ (by first | (simp; done) | (simp; omega) | omega)]; simp [go_sem, World.cell?_alloc_past, *]
  have hB4 : Below w.heap.size w w4 := (by (repeat (first | (with_reducible refine Below.drew ?_) | (with_reducible refine below_drewN ?_ _) | (with_reducible refine Below.alloc ?_ (by first | omega | (simp; done) | (simp; omega) | (simp at *; omega)) _) | (with_reducible refine Below.setCell ?_ (by first | omega | (simp; done) | (simp; omega) | (simp at *; omega)) _) | (with_reducible exact Below.refl _ _) | (with_reducible assumption) | (with_reducible refine Below.trans ?_ (Below.mono (by assumption) (by first | omega | (simp; done) | (simp; omega) | (simp at *; omega)))))))
  clear c3_0 c3_1 c3_2 c3_3 c3_4 c3_5 c3_6 o3_0 n3_0 t3_0_1 t3_0_2 t3_0_3 t3_0_4 t3_0_5 t3_0_6 o3_1 n3_1 t3_1_1 t3_1_2 t3_1_3 t3_1_4 t3_1_5 t3_1_6
  have o4_0 : w.heap.size < w4.heap.size := by omega
  have n4_0 : w4.heap.size ≠ w.heap.size := by omega
  have t4_0_1 : w.heap.size < w4.heap.size + 1 := by omega
  have t4_0_2 : w.heap.size < w4.heap.size + 1 + 1 := by omega
  have t4_0_3 : w.heap.size < w4.heap.size + 1 + 1 + 1 := by omega
  have t4_0_4 : w.heap.size < w4.heap.size + 1 + 1 + 1 + 1 := by omega
  have t4_0_5 : w.heap.size < w4.heap.size + 1 + 1 + 1 + 1 + 1 := by omega
  have t4_0_6 : w.heap.size < w4.heap.size + 1 + 1 + 1 + 1 + 1 + 1 := by omega
  have o4_1 : w.heap.size + 1 < w4.heap.size := by omega
  have n4_1 : w4.heap.size ≠ w.heap.size + 1 := by omega
  have t4_1_1 : w.heap.size + 1 < w4.heap.size + 1 := by omega
  have t4_1_2 : w.heap.size + 1 < w4.heap.size + 1 + 1 := by omega
  have t4_1_3 : w.heap.size + 1 < w4.heap.size + 1 + 1 + 1 := by omega
  have t4_1_4 : w.heap.size + 1 < w4.heap.size + 1 + 1 + 1 + 1 := by omega
  have t4_1_5 : w.heap.size + 1 < w4.heap.size + 1 + 1 + 1 + 1 + 1 := by omega
  have t4_1_6 : w.heap.size + 1 < w4.heap.size + 1 + 1 + 1 + 1 + 1 + 1 := by omega
  have o4_2 : w3.heap.size < w4.heap.size := by omega
  have n4_2 : w4.heap.size ≠ w3.heap.size := by omega
  have t4_2_1 : w3.heap.size < w4.heap.size + 1 := by omega
  have t4_2_2 : w3.heap.size < w4.heap.size + 1 + 1 := by omega
  have t4_2_3 : w3.heap.size < w4.heap.size + 1 + 1 + 1 := by omega
  have t4_2_4 : w3.heap.size < w4.heap.size + 1 + 1 + 1 + 1 := by omega
  have t4_2_5 : w3.heap.size < w4.heap.size + 1 + 1 + 1 + 1 + 1 := by omega
  have t4_2_6 : w3.heap.size < w4.heap.size + 1 + 1 + 1 + 1 + 1 + 1 := by omega
  have o4_3 : w3.heap.size + 1 < w4.heap.size := by omega
  have n4_3 : w4.heap.size ≠ w3.heap.size + 1 := by omega
  have t4_3_1 : w3.heap.size + 1 < w4.heap.size + 1 := by omega
  have t4_3_2 : w3.heap.size + 1 < w4.heap.size + 1 + 1 := by omega
  have t4_3_3 : w3.heap.size + 1 < w4.heap.size + 1 + 1 + 1 := by omega
  have t4_3_4 : w3.heap.size + 1 < w4.heap.size + 1 + 1 + 1 + 1 := by omega
  have t4_3_5 : w3.heap.size + 1 < w4.heap.size + 1 + 1 + 1 + 1 + 1 := by omega
  have t4_3_6 : w3.heap.size + 1 < w4.heap.size + 1 + 1 + 1 + 1 + 1 + 1 := by omega
  have b4 : w.heap.size ≤ w4.heap.size := by omega
  clear hbw4
  go_wp2
  go_ret
  exact ⟨by first | rfl | (simp; done) | (apply ret_bool; simp; omega), (by (repeat (first | (with_reducible refine Below.drew ?_) | (with_reducible refine below_drewN ?_ _) | (with_reducible refine Below.alloc ?_ (by first | omega | (simp; done) | (simp; omega) | (simp at *; omega)) _) | (with_reducible refine Below.setCell ?_ (by first | omega | (simp; done) | (simp; omega) | (simp at *; omega)) _) | (with_reducible exact Below.refl _ _) | (with_reducible assumption) | (with_reducible refine Below.trans ?_ (Below.mono (by assumption) (by first | omega | (simp; done) | (simp; omega) | (simp at *; omega)))))))⟩
set_option maxRecDepth 100000 in
set_option maxHeartbeats 4000000 in
theorem plaw_n (P : List Gs) (A : Option Addr) (cap : Nat) (o h s a b lo hi : Int) (w : World) (m : Int) (hm : w.cell? ⟨1, 0, none⟩ = some (.int .i64 m)) (hl : P.length ≤ 9223372036854775807) (hx : Hid (decide (P.length ≤ 11) = true)) (hl1 : P.length ≤ 1000000) (hA : A = none → cap = 0) (HS : Hid (SlAt w A P)) (hE : Hid (gapE P s a b lo hi = 0)) (hG : Hid (NoGap P s a b lo hi)) (hg : Hid (gasesE P = 0)) (hs : Hid (plE s 0 = 0)) (hli : Hid (limE a b = 0)) (hd : Hid (rdE lo hi = 0))  :
    Calls Tryd.prog 13 #[.slice A P.length cap, .agg #[.int .i64 o, .int .i64 h, .int .i64 s, .int .i64 a, .int .i64 b], .agg #[.int .i64 lo, .int .i64 hi]] w fun e w' => e = .returned (.bool true) ∧ Below w.heap.size w w' := by
  have hlm := World.block_lt_of_cell? _ _ hm
  have hne : w.heap.size ≠ 1 := by simp at hlm; omega
  have hl2 : 1 < w.heap.size := by simpa using hlm
  clear hlm
  have HA := Lib.hid hA
  clear hA
  go_enter Tryd.func13, Tryd.ntmps13
  go_wp2_with fail
  refine (awake_any _ m (by exact oldCell3 (by (repeat (first | (with_reducible refine Below.drew ?_) | (with_reducible refine below_drewN ?_ _) | (with_reducible refine Below.alloc ?_ (by first | omega | (simp; done) | (simp; omega) | (simp at *; omega)) _) | (with_reducible refine Below.setCell ?_ (by first | omega | (simp; done) | (simp; omega) | (simp at *; omega)) _) | (with_reducible exact Below.refl _ _) | (with_reducible assumption) | (with_reducible refine Below.trans ?_ (Below.mono (by assumption) (by first | omega | (simp; done) | (simp; omega) | (simp at *; omega))))))) hm)).mono ?_
  rintro e w1 ⟨rfl, hbw1⟩
  have z1 := hbw1.size
  try simp at z1
  have c1_0 : w1.cell? ⟨w.heap.size, 0, none⟩ = some (.int .i64 o) := by rw [(bcell hbw1).1 _ _ (by first | (simp; done) | (simp; omega) | omega)]; simp [go_sem, World.cell?_alloc_past, *]
  have c1_1 : w1.cell? ⟨w.heap.size, 1, none⟩ = some (.int .i64 h) := by rw [(bcell hbw1).1 _ _ (by first | (simp; done) | (simp; omega) | omega)]; simp [go_sem, World.cell?_alloc_past, *]
  have c1_2 : w1.cell? ⟨w.heap.size, 2, none⟩ = some (.int .i64 s) := by rw [(bcell hbw1).1 _ _ (by first | (simp; done) | (simp; omega) | omega)]; simp [go_sem, World.cell?_alloc_past, *]
  have c1_3 : w1.cell? ⟨w.heap.size, 3, none⟩ = some (.int .i64 a) := by rw [(bcell hbw1).1 _ _ (by first | (simp; done) | (simp; omega) | omega)]; simp [go_sem, World.cell?_alloc_past, *]
  have c1_4 : w1.cell? ⟨w.heap.size, 4, none⟩ = some (.int .i64 b) := by rw [(bcell hbw1).1 _ _ (by first | (simp; done) | (simp; omega) | omega)]; simp [go_sem, World.cell?_alloc_past, *]
  have c1_5 : w1.cell? ⟨w.heap.size + 1, 0, none⟩ = some (.int .i64 lo) := by rw [(bcell hbw1).1 _ _ (by first | (simp; done) | (simp; omega) | omega)]; simp [go_sem, World.cell?_alloc_past, *]
  have c1_6 : w1.cell? ⟨w.heap.size + 1, 1, none⟩ = some (.int .i64 hi) := by rw [(bcell hbw1).1 _ _ (by first | (simp; done) | (simp; omega) | omega)]; simp [go_sem, World.cell?_alloc_past, *]
  have hB1 : Below w.heap.size w w1 := (by (repeat (first | (with_reducible refine Below.drew ?_) | (with_reducible refine below_drewN ?_ _) | (with_reducible refine Below.alloc ?_ (by first | omega | (simp; done) | (simp; omega) | (simp at *; omega)) _) | (with_reducible refine Below.setCell ?_ (by first | omega | (simp; done) | (simp; omega) | (simp at *; omega)) _) | (with_reducible exact Below.refl _ _) | (with_reducible assumption) | (with_reducible refine Below.trans ?_ (Below.mono (by assumption) (by first | omega | (simp; done) | (simp; omega) | (simp at *; omega)))))))
  have o1_0 : w.heap.size < w1.heap.size := by omega
  have n1_0 : w1.heap.size ≠ w.heap.size := by omega
  have t1_0_1 : w.heap.size < w1.heap.size + 1 := by omega
  have t1_0_2 : w.heap.size < w1.heap.size + 1 + 1 := by omega
  have t1_0_3 : w.heap.size < w1.heap.size + 1 + 1 + 1 := by omega
  have t1_0_4 : w.heap.size < w1.heap.size + 1 + 1 + 1 + 1 := by omega
  have t1_0_5 : w.heap.size < w1.heap.size + 1 + 1 + 1 + 1 + 1 := by omega
  have t1_0_6 : w.heap.size < w1.heap.size + 1 + 1 + 1 + 1 + 1 + 1 := by omega
  have o1_1 : w.heap.size + 1 < w1.heap.size := by omega
  have n1_1 : w1.heap.size ≠ w.heap.size + 1 := by omega
  have t1_1_1 : w.heap.size + 1 < w1.heap.size + 1 := by omega
  have t1_1_2 : w.heap.size + 1 < w1.heap.size + 1 + 1 := by omega
  have t1_1_3 : w.heap.size + 1 < w1.heap.size + 1 + 1 + 1 := by omega
  have t1_1_4 : w.heap.size + 1 < w1.heap.size + 1 + 1 + 1 + 1 := by omega
  have t1_1_5 : w.heap.size + 1 < w1.heap.size + 1 + 1 + 1 + 1 + 1 := by omega
  have t1_1_6 : w.heap.size + 1 < w1.heap.size + 1 + 1 + 1 + 1 + 1 + 1 := by omega
  have b1 : w.heap.size ≤ w1.heap.size := by omega
  clear hbw1
  go_wp2_with ((go_at_call 47; ((with_reducible refine (many_any A P.length cap _ true hx hl).mono ?_)); rintro e w' ⟨rfl, rfl⟩))
  refine wp_region_held_drew (S := (fun w' => w'.cell? ⟨w.heap.size, 0, none⟩ = some (.int .i64 o) ∧ w'.cell? ⟨w.heap.size, 1, none⟩ = some (.int .i64 h) ∧ w'.cell? ⟨w.heap.size, 2, none⟩ = some (.int .i64 s) ∧ w'.cell? ⟨w.heap.size, 3, none⟩ = some (.int .i64 a) ∧ w'.cell? ⟨w.heap.size, 4, none⟩ = some (.int .i64 b) ∧ w'.cell? ⟨w.heap.size + 1, 0, none⟩ = some (.int .i64 lo) ∧ w'.cell? ⟨w.heap.size + 1, 1, none⟩ = some (.int .i64 hi))) (by kernel_rfl) (by simp [go_sem, World.cell?_alloc_past, *]) (fun hHeld => ?_)
  refine wpAnyH_take (i := 0) (oi := ⟨some 17, _, _, _, _, _⟩) (v := ?_) rfl (by kernel_rfl) (by kernel_rfl) (by kernel_rfl) (fun _ _ _ h => h) (Or.inl ⟨by kernel_rfl, ?_⟩) (by assumption) ?_
  rotate_left
  · (intro w hSw; (try dsimp only at hSw); go_simp; all_goals with_reducible rfl)
  try simp only [Act.put, List.setIfInBounds_toArray, List.set_cons_zero, List.set_cons_succ]
  refine wpAnyH_take (i := 2) (oi := ⟨some 19, _, _, _, _, _⟩) (v := ?_) rfl (by kernel_rfl) (by kernel_rfl) (by kernel_rfl) (fun _ _ _ h => h) (Or.inl ⟨by kernel_rfl, ?_⟩) (by assumption) ?_
  rotate_left
  · (intro w hSw; (try dsimp only at hSw); go_simp; all_goals with_reducible rfl)
  try simp only [Act.put, List.setIfInBounds_toArray, List.set_cons_zero, List.set_cons_succ]
  refine wpAnyH_take (i := 3) (oi := ⟨some 20, _, _, _, _, _⟩) (v := ?_) rfl (by kernel_rfl) (by kernel_rfl) (by kernel_rfl) (fun _ _ _ h => h) (Or.inl ⟨by kernel_rfl, ?_⟩) (by assumption) ?_
  rotate_left
  · (intro w hSw; (try dsimp only at hSw); go_simp; all_goals with_reducible rfl)
  try simp only [Act.put, List.setIfInBounds_toArray, List.set_cons_zero, List.set_cons_succ]
  refine wpAnyH_take (i := 4) (oi := ⟨some 21, _, _, _, _, _⟩) (v := ?_) rfl (by kernel_rfl) (by kernel_rfl) (by kernel_rfl) (fun _ _ _ h => h) (Or.inl ⟨by kernel_rfl, ?_⟩) (by assumption) ?_
  rotate_left
  · (intro w hSw; (try dsimp only at hSw); go_simp; all_goals with_reducible rfl)
  try simp only [Act.put, List.setIfInBounds_toArray, List.set_cons_zero, List.set_cons_succ]
  refine wpAnyH_take (i := 5) (oi := ⟨some 22, _, _, _, _, _⟩) (v := ?_) rfl (by kernel_rfl) (by kernel_rfl) (by kernel_rfl) (fun _ _ _ h => h) (Or.inl ⟨by kernel_rfl, ?_⟩) (by assumption) ?_
  rotate_left
  · (intro w hSw; (try dsimp only at hSw); go_simp; all_goals with_reducible rfl)
  try simp only [Act.put, List.setIfInBounds_toArray, List.set_cons_zero, List.set_cons_succ]
  refine wpAnyH_take (i := 6) (oi := ⟨some 23, _, _, _, _, _⟩) (v := ?_) rfl (by kernel_rfl) (by kernel_rfl) (by kernel_rfl) (fun _ _ _ h => h) (Or.inl ⟨by kernel_rfl, ?_⟩) (by assumption) ?_
  rotate_left
  · (intro w hSw; (try dsimp only at hSw); go_simp; all_goals with_reducible rfl)
  try simp only [Act.put, List.setIfInBounds_toArray, List.set_cons_zero, List.set_cons_succ]
  refine wpAnyH_ready (rs := [1]) (by kernel_rfl) (by simp) ?_
  refine AllReadyH.cons rfl (fun K hK => ?_) AllReadyH.nil
  go_simp
  go_at_call 48
  ((with_reducible refine (CopyGases_any P A cap _ hl1 HA.out (by exact HS.out.below (by (repeat (first | (with_reducible refine Below.drew ?_) | (with_reducible refine below_drewN ?_ _) | (with_reducible refine Below.alloc ?_ (by first | omega | (simp; done) | (simp; omega) | (simp at *; omega)) _) | (with_reducible refine Below.setCell ?_ (by first | omega | (simp; done) | (simp; omega) | (simp at *; omega)) _) | (with_reducible exact Below.refl _ _) | (with_reducible assumption) | (with_reducible refine Below.trans ?_ (Below.mono (by assumption) (by first | omega | (simp; done) | (simp; omega) | (simp at *; omega))))))))).mono ?_))
  rintro e wA ⟨A', cap', rfl, hSl, hbwA⟩
  have zA := hbwA.size
  (try simp at zA)
  have x0 : wA.cell? ⟨w.heap.size, 0, none⟩ = some (.int .i64 o) := (by rw [(bcell hbwA).1 _ _ (by first | (simp; done) | (simp; omega) | omega)]; simp [go_sem, World.cell?_alloc_past, *])
  have x1 : wA.cell? ⟨w.heap.size, 1, none⟩ = some (.int .i64 h) := (by rw [(bcell hbwA).1 _ _ (by first | (simp; done) | (simp; omega) | omega)]; simp [go_sem, World.cell?_alloc_past, *])
  have x2 : wA.cell? ⟨w.heap.size, 2, none⟩ = some (.int .i64 s) := (by rw [(bcell hbwA).1 _ _ (by first | (simp; done) | (simp; omega) | omega)]; simp [go_sem, World.cell?_alloc_past, *])
  have x3 : wA.cell? ⟨w.heap.size, 3, none⟩ = some (.int .i64 a) := (by rw [(bcell hbwA).1 _ _ (by first | (simp; done) | (simp; omega) | omega)]; simp [go_sem, World.cell?_alloc_past, *])
  have x4 : wA.cell? ⟨w.heap.size, 4, none⟩ = some (.int .i64 b) := (by rw [(bcell hbwA).1 _ _ (by first | (simp; done) | (simp; omega) | omega)]; simp [go_sem, World.cell?_alloc_past, *])
  have x5 : wA.cell? ⟨w.heap.size + 1, 0, none⟩ = some (.int .i64 lo) := (by rw [(bcell hbwA).1 _ _ (by first | (simp; done) | (simp; omega) | omega)]; simp [go_sem, World.cell?_alloc_past, *])
  have x6 : wA.cell? ⟨w.heap.size + 1, 1, none⟩ = some (.int .i64 hi) := (by rw [(bcell hbwA).1 _ _ (by first | (simp; done) | (simp; omega) | omega)]; simp [go_sem, World.cell?_alloc_past, *])
  have hBA : Below w.heap.size w wA := (by (repeat (first | (with_reducible refine Below.drew ?_) | (with_reducible refine below_drewN ?_ _) | (with_reducible refine Below.alloc ?_ (by first | omega | (simp; done) | (simp; omega) | (simp at *; omega)) _) | (with_reducible refine Below.setCell ?_ (by first | omega | (simp; done) | (simp; omega) | (simp at *; omega)) _) | (with_reducible exact Below.refl _ _) | (with_reducible assumption) | (with_reducible refine Below.trans ?_ (Below.mono (by assumption) (by first | omega | (simp; done) | (simp; omega) | (simp at *; omega)))))))
  have HSl := Lib.hid hSl
  clear hSl
  go_wp2_with fail
  refine hK.out _ _ (by simp [go_sem, World.cell?_alloc_past, *]) (fun hHeld => ?_)
  clear hK K
  try simp only [Act.put, List.setIfInBounds_toArray, List.set_cons_zero, List.set_cons_succ]
  refine wpAnyH_ready (rs := [7]) (by kernel_rfl) (by simp) ?_
  refine AllReadyH.cons rfl (fun K hK => ?_) AllReadyH.nil
  go_simp
  go_at_call 51
  ((with_reducible refine (FirstGap_none P A' cap' s a b lo hi _ hl1 (by exact HSl.out.below (by (repeat (first | (with_reducible refine Below.drew ?_) | (with_reducible refine below_drewN ?_ _) | (with_reducible refine Below.alloc ?_ (by first | omega | (simp; done) | (simp; omega) | (simp at *; omega)) _) | (with_reducible refine Below.setCell ?_ (by first | omega | (simp; done) | (simp; omega) | (simp at *; omega)) _) | (with_reducible exact Below.refl _ _) | (with_reducible assumption) | (with_reducible refine Below.trans ?_ (Below.mono (by assumption) (by first | omega | (simp; done) | (simp; omega) | (simp at *; omega)))))))) hE hG).mono ?_))
  rintro e wB ⟨rfl, hbwB⟩
  have zB := hbwB.size
  (try simp at zB)
  have y0 : wB.cell? ⟨w.heap.size, 0, none⟩ = some (.int .i64 o) := (by rw [(bcell hbwB).1 _ _ (by first | (simp; done) | (simp; omega) | omega)]; simp [go_sem, World.cell?_alloc_past, *])
  have y1 : wB.cell? ⟨w.heap.size, 1, none⟩ = some (.int .i64 h) := (by rw [(bcell hbwB).1 _ _ (by first | (simp; done) | (simp; omega) | omega)]; simp [go_sem, World.cell?_alloc_past, *])
  have y2 : wB.cell? ⟨w.heap.size, 2, none⟩ = some (.int .i64 s) := (by rw [(bcell hbwB).1 _ _ (by first | (simp; done) | (simp; omega) | omega)]; simp [go_sem, World.cell?_alloc_past, *])
  have y3 : wB.cell? ⟨w.heap.size, 3, none⟩ = some (.int .i64 a) := (by rw [(bcell hbwB).1 _ _ (by first | (simp; done) | (simp; omega) | omega)]; simp [go_sem, World.cell?_alloc_past, *])
  have y4 : wB.cell? ⟨w.heap.size, 4, none⟩ = some (.int .i64 b) := (by rw [(bcell hbwB).1 _ _ (by first | (simp; done) | (simp; omega) | omega)]; simp [go_sem, World.cell?_alloc_past, *])
  have y5 : wB.cell? ⟨w.heap.size + 1, 0, none⟩ = some (.int .i64 lo) := (by rw [(bcell hbwB).1 _ _ (by first | (simp; done) | (simp; omega) | omega)]; simp [go_sem, World.cell?_alloc_past, *])
  have y6 : wB.cell? ⟨w.heap.size + 1, 1, none⟩ = some (.int .i64 hi) := (by rw [(bcell hbwB).1 _ _ (by first | (simp; done) | (simp; omega) | omega)]; simp [go_sem, World.cell?_alloc_past, *])
  have hBB : Below w.heap.size w wB := (by (repeat (first | (with_reducible refine Below.drew ?_) | (with_reducible refine below_drewN ?_ _) | (with_reducible refine Below.alloc ?_ (by first | omega | (simp; done) | (simp; omega) | (simp at *; omega)) _) | (with_reducible refine Below.setCell ?_ (by first | omega | (simp; done) | (simp; omega) | (simp at *; omega)) _) | (with_reducible exact Below.refl _ _) | (with_reducible assumption) | (with_reducible refine Below.trans ?_ (Below.mono (by assumption) (by first | omega | (simp; done) | (simp; omega) | (simp at *; omega)))))))
  go_wp2_with fail
  refine hK.out _ _ (by simp [go_sem, World.cell?_alloc_past, *]) (fun hHeld => ?_)
  clear hK K
  try simp only [Act.put, List.setIfInBounds_toArray, List.set_cons_zero, List.set_cons_succ]
  refine wpAnyH_take (i := 8) (oi := ⟨some 16, _, _, _, _, _⟩) (v := ?_) rfl (by kernel_rfl) (by kernel_rfl) (by kernel_rfl) (fun _ _ _ h => h) (Or.inl ⟨by kernel_rfl, ?_⟩) (by assumption) ?_
  rotate_left
  · (intro w hSw; (try dsimp only at hSw); go_simp; all_goals with_reducible rfl)
  try simp only [Act.put, List.setIfInBounds_toArray, List.set_cons_zero, List.set_cons_succ]
  refine wpAnyH_take (i := 9) (oi := ⟨some 25, _, _, _, _, _⟩) (v := ?_) rfl (by kernel_rfl) (by kernel_rfl) (by kernel_rfl) (fun _ _ _ h => h) (Or.inl ⟨by kernel_rfl, ?_⟩) (by assumption) ?_
  rotate_left
  · (intro w hSw; (try dsimp only at hSw); go_simp; all_goals with_reducible rfl)
  try simp only [Act.put, List.setIfInBounds_toArray, List.set_cons_zero, List.set_cons_succ]
  refine wpAnyH_take (i := 10) (oi := ⟨some 26, _, _, _, _, _⟩) (v := ?_) rfl (by kernel_rfl) (by kernel_rfl) (by kernel_rfl) (fun _ _ _ h => h) (Or.inl ⟨by kernel_rfl, ?_⟩) (by assumption) ?_
  rotate_left
  · (intro w hSw; (try dsimp only at hSw); go_simp; all_goals with_reducible rfl)
  try simp only [Act.put, List.setIfInBounds_toArray, List.set_cons_zero, List.set_cons_succ]
  refine wpAnyH_take (i := 11) (oi := ⟨some 7, _, _, _, _, _⟩) (v := ?_) rfl (by kernel_rfl) (by kernel_rfl) (by kernel_rfl) (fun _ _ _ h => h) (Or.inl ⟨by kernel_rfl, ?_⟩) (by assumption) ?_
  rotate_left
  · (intro w hSw; (try dsimp only at hSw); go_simp; all_goals with_reducible rfl)
  try simp only [Act.put, List.setIfInBounds_toArray, List.set_cons_zero, List.set_cons_succ]
  refine wpAnyH_take (i := 12) (oi := ⟨some 8, _, _, _, _, _⟩) (v := ?_) rfl (by kernel_rfl) (by kernel_rfl) (by kernel_rfl) (fun _ _ _ h => h) (Or.inl ⟨by kernel_rfl, ?_⟩) (by assumption) ?_
  rotate_left
  · (intro w hSw; (try dsimp only at hSw); go_simp; all_goals with_reducible rfl)
  try simp only [Act.put, List.setIfInBounds_toArray, List.set_cons_zero, List.set_cons_succ]
  refine wpAnyH_done (by kernel_rfl) ?_ _
  clear c1_0 c1_1 c1_2 c1_3 c1_4 c1_5 c1_6 o1_0 n1_0 t1_0_1 t1_0_2 t1_0_3 t1_0_4 t1_0_5 t1_0_6 o1_1 n1_1 t1_1_1 t1_1_2 t1_1_3 t1_1_4 t1_1_5 t1_1_6 hbwA hbwB x0 x1 x2 x3 x4 x5 x6
  have hsB := hBB.size
  have o2_0 : w.heap.size < wB.heap.size := by omega
  have n2_0 : wB.heap.size ≠ w.heap.size := by omega
  have t2_0_1 : w.heap.size < wB.heap.size + 1 := by omega
  have t2_0_2 : w.heap.size < wB.heap.size + 1 + 1 := by omega
  have t2_0_3 : w.heap.size < wB.heap.size + 1 + 1 + 1 := by omega
  have t2_0_4 : w.heap.size < wB.heap.size + 1 + 1 + 1 + 1 := by omega
  have t2_0_5 : w.heap.size < wB.heap.size + 1 + 1 + 1 + 1 + 1 := by omega
  have t2_0_6 : w.heap.size < wB.heap.size + 1 + 1 + 1 + 1 + 1 + 1 := by omega
  have o2_1 : w.heap.size + 1 < wB.heap.size := by omega
  have n2_1 : wB.heap.size ≠ w.heap.size + 1 := by omega
  have t2_1_1 : w.heap.size + 1 < wB.heap.size + 1 := by omega
  have t2_1_2 : w.heap.size + 1 < wB.heap.size + 1 + 1 := by omega
  have t2_1_3 : w.heap.size + 1 < wB.heap.size + 1 + 1 + 1 := by omega
  have t2_1_4 : w.heap.size + 1 < wB.heap.size + 1 + 1 + 1 + 1 := by omega
  have t2_1_5 : w.heap.size + 1 < wB.heap.size + 1 + 1 + 1 + 1 + 1 := by omega
  have t2_1_6 : w.heap.size + 1 < wB.heap.size + 1 + 1 + 1 + 1 + 1 + 1 := by omega
  have b2 : w.heap.size ≤ wB.heap.size := by omega
  go_wp2_with fail
  refine (refCheckGases_is P A cap 0 _ hl1 (by exact HS.out.below (by (repeat (first | (with_reducible refine Below.drew ?_) | (with_reducible refine below_drewN ?_ _) | (with_reducible refine Below.alloc ?_ (by first | omega | (simp; done) | (simp; omega) | (simp at *; omega)) _) | (with_reducible refine Below.setCell ?_ (by first | omega | (simp; done) | (simp; omega) | (simp at *; omega)) _) | (with_reducible exact Below.refl _ _) | (with_reducible assumption) | (with_reducible refine Below.trans ?_ (Below.mono (by assumption) (by first | omega | (simp; done) | (simp; omega) | (simp at *; omega)))))))) hg).mono ?_
  rintro e w3 ⟨rfl, hbw3⟩
  have z3 := hbw3.size
  try simp at z3
  have c3_0 : w3.cell? ⟨w.heap.size, 0, none⟩ = some (.int .i64 o) := by rw [(bcell hbw3).1 _ _ (by first | (simp; done) | (simp; omega) | omega)]; simp [go_sem, World.cell?_alloc_past, *]
  have c3_1 : w3.cell? ⟨w.heap.size, 1, none⟩ = some (.int .i64 h) := by rw [(bcell hbw3).1 _ _ (by first | (simp; done) | (simp; omega) | omega)]; simp [go_sem, World.cell?_alloc_past, *]
  have c3_2 : w3.cell? ⟨w.heap.size, 2, none⟩ = some (.int .i64 s) := by rw [(bcell hbw3).1 _ _ (by first | (simp; done) | (simp; omega) | omega)]; simp [go_sem, World.cell?_alloc_past, *]
  have c3_3 : w3.cell? ⟨w.heap.size, 3, none⟩ = some (.int .i64 a) := by rw [(bcell hbw3).1 _ _ (by first | (simp; done) | (simp; omega) | omega)]; simp [go_sem, World.cell?_alloc_past, *]
  have c3_4 : w3.cell? ⟨w.heap.size, 4, none⟩ = some (.int .i64 b) := by rw [(bcell hbw3).1 _ _ (by first | (simp; done) | (simp; omega) | omega)]; simp [go_sem, World.cell?_alloc_past, *]
  have c3_5 : w3.cell? ⟨w.heap.size + 1, 0, none⟩ = some (.int .i64 lo) := by rw [(bcell hbw3).1 _ _ (by first | (simp; done) | (simp; omega) | omega)]; simp [go_sem, World.cell?_alloc_past, *]
  have c3_6 : w3.cell? ⟨w.heap.size + 1, 1, none⟩ = some (.int .i64 hi) := by rw [(bcell hbw3).1 _ _ (by first | (simp; done) | (simp; omega) | omega)]; simp [go_sem, World.cell?_alloc_past, *]
  have hB3 : Below w.heap.size w w3 := (by (repeat (first | (with_reducible refine Below.drew ?_) | (with_reducible refine below_drewN ?_ _) | (with_reducible refine Below.alloc ?_ (by first | omega | (simp; done) | (simp; omega) | (simp at *; omega)) _) | (with_reducible refine Below.setCell ?_ (by first | omega | (simp; done) | (simp; omega) | (simp at *; omega)) _) | (with_reducible exact Below.refl _ _) | (with_reducible assumption) | (with_reducible refine Below.trans ?_ (Below.mono (by assumption) (by first | omega | (simp; done) | (simp; omega) | (simp at *; omega)))))))
  clear y0 y1 y2 y3 y4 y5 y6 o2_0 n2_0 t2_0_1 t2_0_2 t2_0_3 t2_0_4 t2_0_5 t2_0_6 o2_1 n2_1 t2_1_1 t2_1_2 t2_1_3 t2_1_4 t2_1_5 t2_1_6
  have o3_0 : w.heap.size < w3.heap.size := by omega
  have n3_0 : w3.heap.size ≠ w.heap.size := by omega
  have t3_0_1 : w.heap.size < w3.heap.size + 1 := by omega
  have t3_0_2 : w.heap.size < w3.heap.size + 1 + 1 := by omega
  have t3_0_3 : w.heap.size < w3.heap.size + 1 + 1 + 1 := by omega
  have t3_0_4 : w.heap.size < w3.heap.size + 1 + 1 + 1 + 1 := by omega
  have t3_0_5 : w.heap.size < w3.heap.size + 1 + 1 + 1 + 1 + 1 := by omega
  have t3_0_6 : w.heap.size < w3.heap.size + 1 + 1 + 1 + 1 + 1 + 1 := by omega
  have o3_1 : w.heap.size + 1 < w3.heap.size := by omega
  have n3_1 : w3.heap.size ≠ w.heap.size + 1 := by omega
  have t3_1_1 : w.heap.size + 1 < w3.heap.size + 1 := by omega
  have t3_1_2 : w.heap.size + 1 < w3.heap.size + 1 + 1 := by omega
  have t3_1_3 : w.heap.size + 1 < w3.heap.size + 1 + 1 + 1 := by omega
  have t3_1_4 : w.heap.size + 1 < w3.heap.size + 1 + 1 + 1 + 1 := by omega
  have t3_1_5 : w.heap.size + 1 < w3.heap.size + 1 + 1 + 1 + 1 + 1 := by omega
  have t3_1_6 : w.heap.size + 1 < w3.heap.size + 1 + 1 + 1 + 1 + 1 + 1 := by omega
  have b3 : w.heap.size ≤ w3.heap.size := by omega
  clear hbw3
  go_wp2_with (first | (go_at_call 25; ((with_reducible refine (CheckPlace_c s 0 0 _ hs).mono ?_)); rintro e w' ⟨rfl, rfl⟩) | (go_at_call 31; ((with_reducible refine (refCheckLimits_c _ _ 0 _ hli).mono ?_)); rintro e w' ⟨rfl, rfl⟩) | (go_at_call 52; ((with_reducible refine (refCheckDepths_c _ _ 0 _ hd).mono ?_)); rintro e w' ⟨rfl, rfl⟩))
  refine (refFirstGap_any P A cap s a b lo hi _ hl1 (by exact HS.out.below (by (repeat (first | (with_reducible refine Below.drew ?_) | (with_reducible refine below_drewN ?_ _) | (with_reducible refine Below.alloc ?_ (by first | omega | (simp; done) | (simp; omega) | (simp at *; omega)) _) | (with_reducible refine Below.setCell ?_ (by first | omega | (simp; done) | (simp; omega) | (simp at *; omega)) _) | (with_reducible exact Below.refl _ _) | (with_reducible assumption) | (with_reducible refine Below.trans ?_ (Below.mono (by assumption) (by first | omega | (simp; done) | (simp; omega) | (simp at *; omega)))))))) hE (-1) (Or.inr ⟨rfl, hG.out⟩)).mono ?_
  rintro e w4 ⟨rfl, hbw4⟩
  have z4 := hbw4.size
  try simp at z4
  have c4_0 : w4.cell? ⟨w.heap.size, 0, none⟩ = some (.int .i64 o) := by rw [(bcell hbw4).1 _ _ (by first | (simp; done) | (simp; omega) | omega)]; simp [go_sem, World.cell?_alloc_past, *]
  have c4_1 : w4.cell? ⟨w.heap.size, 1, none⟩ = some (.int .i64 h) := by rw [(bcell hbw4).1 _ _ (by first | (simp; done) | (simp; omega) | omega)]; simp [go_sem, World.cell?_alloc_past, *]
  have c4_2 : w4.cell? ⟨w.heap.size, 2, none⟩ = some (.int .i64 s) := by rw [(bcell hbw4).1 _ _ (by first | (simp; done) | (simp; omega) | omega)]; simp [go_sem, World.cell?_alloc_past, *]
  have c4_3 : w4.cell? ⟨w.heap.size, 3, none⟩ = some (.int .i64 a) := by rw [(bcell hbw4).1 _ _ (by first | (simp; done) | (simp; omega) | omega)]; simp [go_sem, World.cell?_alloc_past, *]
  have c4_4 : w4.cell? ⟨w.heap.size, 4, none⟩ = some (.int .i64 b) := by rw [(bcell hbw4).1 _ _ (by first | (simp; done) | (simp; omega) | omega)]; simp [go_sem, World.cell?_alloc_past, *]
  have c4_5 : w4.cell? ⟨w.heap.size + 1, 0, none⟩ = some (.int .i64 lo) := by rw [(bcell hbw4).1 _ _ (by first | (simp; done) | (simp; omega) | omega)]; simp [go_sem, World.cell?_alloc_past, *]
  have c4_6 : w4.cell? ⟨w.heap.size + 1, 1, none⟩ = some (.int .i64 hi) := by rw [(bcell hbw4).1 _ _ (by first | (simp; done) | (simp; omega) | omega)]; simp [go_sem, World.cell?_alloc_past, *]
  have hB4 : Below w.heap.size w w4 := (by (repeat (first | (with_reducible refine Below.drew ?_) | (with_reducible refine below_drewN ?_ _) | (with_reducible refine Below.alloc ?_ (by first | omega | (simp; done) | (simp; omega) | (simp at *; omega)) _) | (with_reducible refine Below.setCell ?_ (by first | omega | (simp; done) | (simp; omega) | (simp at *; omega)) _) | (with_reducible exact Below.refl _ _) | (with_reducible assumption) | (with_reducible refine Below.trans ?_ (Below.mono (by assumption) (by first | omega | (simp; done) | (simp; omega) | (simp at *; omega)))))))
  clear c3_0 c3_1 c3_2 c3_3 c3_4 c3_5 c3_6 o3_0 n3_0 t3_0_1 t3_0_2 t3_0_3 t3_0_4 t3_0_5 t3_0_6 o3_1 n3_1 t3_1_1 t3_1_2 t3_1_3 t3_1_4 t3_1_5 t3_1_6
  have o4_0 : w.heap.size < w4.heap.size := by omega
  have n4_0 : w4.heap.size ≠ w.heap.size := by omega
  have t4_0_1 : w.heap.size < w4.heap.size + 1 := by omega
  have t4_0_2 : w.heap.size < w4.heap.size + 1 + 1 := by omega
  have t4_0_3 : w.heap.size < w4.heap.size + 1 + 1 + 1 := by omega
  have t4_0_4 : w.heap.size < w4.heap.size + 1 + 1 + 1 + 1 := by omega
  have t4_0_5 : w.heap.size < w4.heap.size + 1 + 1 + 1 + 1 + 1 := by omega
  have t4_0_6 : w.heap.size < w4.heap.size + 1 + 1 + 1 + 1 + 1 + 1 := by omega
  have o4_1 : w.heap.size + 1 < w4.heap.size := by omega
  have n4_1 : w4.heap.size ≠ w.heap.size + 1 := by omega
  have t4_1_1 : w.heap.size + 1 < w4.heap.size + 1 := by omega
  have t4_1_2 : w.heap.size + 1 < w4.heap.size + 1 + 1 := by omega
  have t4_1_3 : w.heap.size + 1 < w4.heap.size + 1 + 1 + 1 := by omega
  have t4_1_4 : w.heap.size + 1 < w4.heap.size + 1 + 1 + 1 + 1 := by omega
  have t4_1_5 : w.heap.size + 1 < w4.heap.size + 1 + 1 + 1 + 1 + 1 := by omega
  have t4_1_6 : w.heap.size + 1 < w4.heap.size + 1 + 1 + 1 + 1 + 1 + 1 := by omega
  have o4_2 : w3.heap.size < w4.heap.size := by omega
  have n4_2 : w4.heap.size ≠ w3.heap.size := by omega
  have t4_2_1 : w3.heap.size < w4.heap.size + 1 := by omega
  have t4_2_2 : w3.heap.size < w4.heap.size + 1 + 1 := by omega
  have t4_2_3 : w3.heap.size < w4.heap.size + 1 + 1 + 1 := by omega
  have t4_2_4 : w3.heap.size < w4.heap.size + 1 + 1 + 1 + 1 := by omega
  have t4_2_5 : w3.heap.size < w4.heap.size + 1 + 1 + 1 + 1 + 1 := by omega
  have t4_2_6 : w3.heap.size < w4.heap.size + 1 + 1 + 1 + 1 + 1 + 1 := by omega
  have o4_3 : w3.heap.size + 1 < w4.heap.size := by omega
  have n4_3 : w4.heap.size ≠ w3.heap.size + 1 := by omega
  have t4_3_1 : w3.heap.size + 1 < w4.heap.size + 1 := by omega
  have t4_3_2 : w3.heap.size + 1 < w4.heap.size + 1 + 1 := by omega
  have t4_3_3 : w3.heap.size + 1 < w4.heap.size + 1 + 1 + 1 := by omega
  have t4_3_4 : w3.heap.size + 1 < w4.heap.size + 1 + 1 + 1 + 1 := by omega
  have t4_3_5 : w3.heap.size + 1 < w4.heap.size + 1 + 1 + 1 + 1 + 1 := by omega
  have t4_3_6 : w3.heap.size + 1 < w4.heap.size + 1 + 1 + 1 + 1 + 1 + 1 := by omega
  have b4 : w.heap.size ≤ w4.heap.size := by omega
  clear hbw4
  go_wp2
  go_ret
  exact ⟨by first | rfl | (simp; done) | (apply ret_bool; simp; omega), (by (repeat (first | (with_reducible refine Below.drew ?_) | (with_reducible refine below_drewN ?_ _) | (with_reducible refine Below.alloc ?_ (by first | omega | (simp; done) | (simp; omega) | (simp at *; omega)) _) | (with_reducible refine Below.setCell ?_ (by first | omega | (simp; done) | (simp; omega) | (simp at *; omega)) _) | (with_reducible exact Below.refl _ _) | (with_reducible assumption) | (with_reducible refine Below.trans ?_ (Below.mono (by assumption) (by first | omega | (simp; done) | (simp; omega) | (simp at *; omega)))))))⟩
theorem gasGaps_any (P : List Gs) (A : Option Addr) (cap : Nat) (o h s a b lo hi : Int) (w : World) (m : Int) (hm : w.cell? ⟨1, 0, none⟩ = some (.int .i64 m)) (hl : P.length ≤ 9223372036854775807) (hA : A = none → cap = 0) (hS : SlAt w A P) :
    Calls Tryd.prog 13 #[.slice A P.length cap, .agg #[.int .i64 o, .int .i64 h, .int .i64 s, .int .i64 a, .int .i64 b], .agg #[.int .i64 lo, .int .i64 hi]] w fun e w' => e = .returned (.bool true) ∧ Below w.heap.size w w' := by
  by_cases hx : P.length ≤ 11
  · have hx' : decide (P.length ≤ 11) = true := by simpa using hx
    rcases ez (gasesE P) with ⟨hg, hgb⟩ | ⟨hg, hgb⟩
    · rcases ez (plE s 0) with ⟨hs, hsb⟩ | ⟨hs, hsb⟩
      · have hs' : rngE s 400 1100 = 0 := by rw [← plE_s]; exact hs.out
        rcases ez (limE a b) with ⟨hli, hlb⟩ | ⟨hli, hlb⟩
        · rcases ez (rdE lo hi) with ⟨hd, hdb⟩ | ⟨hd, hdb⟩
          · have hE : gapE P s a b lo hi = 0 := by unfold gapE; rw [hg.out, hs', hli.out, hd.out]; rfl
            obtain ⟨d1, d2, d3, d4, d5⟩ := rdE_z hd.out
            by_cases hG : ∃ x, IsGap P s a b lo hi x
            · obtain ⟨g, hG⟩ := hG
              exact plaw_k P A cap o h s a b lo hi w m hm hl hx' (by omega) hA hS g hE hG (by have := hG.1; omega) hg hs hli hd
            · exact plaw_n P A cap o h s a b lo hi w m hm hl hx' (by omega) hA hS hE (noGap_of hG) hg hs hli hd
          · have hE : gapE P s a b lo hi = rdE lo hi := by unfold gapE; simp [firE, hg.out, hs', hli.out, hd.out]
            exact plaw_d P A cap o h s a b lo hi w m hm hl hx' (by omega) hA hS _ hE hd hdb (by simpa using hd.out) hg hs hli rfl
        · have hE : gapE P s a b lo hi = limE a b := by unfold gapE; simp [firE, hg.out, hs', hli.out]
          exact plaw_l P A cap o h s a b lo hi w m hm hl hx' (by omega) hA hS _ hE hli hlb (by simpa using hli.out) hg hs rfl
      · have hs' : rngE s 400 1100 ≠ 0 := by rw [← plE_s]; exact hs.out
        have hE : gapE P s a b lo hi = plE s 0 := by rw [plE_s]; unfold gapE; simp [firE, hg.out, hs']
        exact plaw_s P A cap o h s a b lo hi w m hm hl hx' (by omega) hA hS _ hE hs hsb (by simpa using hs.out) hg rfl
    · have hE : gapE P s a b lo hi = gasesE P := by unfold gapE; simp [firE, hg.out]
      exact plaw_g P A cap o h s a b lo hi w m hm hl hx' (by omega) hA hS _ hE hg hgb (by simpa using hg.out) rfl
  · exact plaw_big P A cap o h s a b lo hi w m hm hl (by show _ = _; simpa using hx)
end Go.Proofs.YtebieflnlmdllaaDoor
