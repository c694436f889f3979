/- What gas.FirstGap returns. -/
import Derived.Test.YtebieflnlmdllabGap
import Derived.Outline
namespace Go.Proofs.Ytebieflnlmdllab
open Go.ChangeShapes Go.WideShapes Go.ChangeAt Go.RowKit
set_option linter.unusedVariables false
set_option linter.unusedSimpArgs false
attribute [local go_sem ↓] Go.wp_at_zero Go.wp_at_succ

def IsGap (P : List Gs) (s a b lo hi x : Int) : Prop := lo ≤ x ∧ x ≤ hi ∧ ¬ brAny P s a b x ∧ ∀ y, lo ≤ y → y < x → brAny P s a b y
def NoGap (P : List Gs) (s a b lo hi : Int) : Prop := ∀ y, lo ≤ y → y ≤ hi → brAny P s a b y
theorem IsGap.same {P : List Gs} {s a b lo hi x y : Int} (h1 : IsGap P s a b lo hi x) (h2 : IsGap P s a b lo hi y) : x = y := by
  obtain ⟨a1, a2, a3, a4⟩ := h1
  obtain ⟨b1, b2, b3, b4⟩ := h2
  by_cases c : x < y
  · exact absurd (b4 x a1 c) a3
  · by_cases d : y < x
    · exact absurd (a4 y b1 d) b3
    · omega
theorem IsGap.no {P : List Gs} {s a b lo hi x : Int} (h1 : IsGap P s a b lo hi x) (h2 : NoGap P s a b lo hi) : False := h1.2.2.1 (h2 x h1.1 h1.2.1)
def gapE (P : List Gs) (s a b lo hi : Int) : Int := firE [gasesE P, rngE s 400 1100, limE a b, rdE lo hi]
def GapPost (P : List Gs) (s a b lo hi : Int) (w : World) (e : Ending) (w' : World) : Prop :=
  ((gapE P s a b lo hi ≠ 0 ∧ e = .returned (.tuple #[.int .i64 0, .int .i64 (gapE P s a b lo hi)])) ∨ (gapE P s a b lo hi = 0 ∧ ∃ x, IsGap P s a b lo hi x ∧ e = .returned (.tuple #[.int .i64 x, .int .i64 0])) ∨ (gapE P s a b lo hi = 0 ∧ NoGap P s a b lo hi ∧ e = .returned (.tuple #[.int .i64 0, .int .i64 12]))) ∧ Below w.heap.size w w'
theorem checkDepths_v (x y c : Int) (w : World) (hc : Hid (rdE x y = c)) :
    Calls Try.prog 29 #[.agg #[.int .i64 x, .int .i64 y]] w fun e w' => e = .returned (.int .i64 c) ∧ Below w.heap.size w w' := by
  have := checkDepths_any x y w
  rw [hc.out] at this
  exact this
set_option maxRecDepth 100000 in
set_option maxHeartbeats 8000000 in
theorem FirstGap_ne (P : List Gs) (c off cap : Nat) (s a b lo hi : Int) (w : World) (hl : P.length ≤ 1000000) (hlt : c < w.heap.size) (hP : GasesAt w c off P) :
    Calls Try.prog 11 #[.slice (some ⟨c, off, none⟩) P.length cap, .int .i64 s, .agg #[.int .i64 a, .int .i64 b], .agg #[.int .i64 lo, .int .i64 hi]] w (GapPost P s a b lo hi w) := by
  have HS : Hid (SlAt w (some ⟨c, off, none⟩) P) := Or.inr ⟨c, off, rfl, hlt, hP⟩
  have HP : Hid (GasesAt w c off P) := hP
  clear hP
  obtain ⟨rd, hrd⟩ : ∃ rd, Hid (rdE lo hi = rd) := ⟨_, rfl⟩
  obtain ⟨er, her⟩ : ∃ er, Hid (gapE P s a b lo hi = er) := ⟨_, rfl⟩
  have fo : ∀ er', er' = er → ∀ (bk : Nat) (w : World), w.cell? ⟨bk, 0, none⟩ = some (.int .i64 (gasesE P)) → w.cell? ⟨bk, 1, none⟩ = some (.int .i64 (rngE s 400 1100)) → w.cell? ⟨bk, 2, none⟩ = some (.int .i64 (limE a b)) → w.cell? ⟨bk, 3, none⟩ = some (.int .i64 rd) →
      Calls Try.prog 21 #[.slice (some ⟨bk, 0, none⟩) 4 4] w fun e w' => e = .returned (.int .i64 er) ∧ w = w' := by
    intro er' _ bk w h0 h1 h2 h3
    have := firstOf4c (gasesE P) (rngE s 400 1100) (limE a b) rd bk w h0 h1 h2 h3
    rw [← hrd.out] at this
    rw [show firE [gasesE P, rngE s 400 1100, limE a b, rdE lo hi] = er from her.out] at this
    exact this
  have FO := Lib.hid (fun bk w => fo er rfl bk w)
  clear fo
  go_enter Try.func11, Try.ntmps11
  go_upto_region 1 with (fail)
  go_cut [10] from 15 (fun s10 wx => s10 = .int .i64 er ∧ Below w.heap.size w wx ∧ w.heap.size + 4 ≤ wx.heap.size ∧ wx.cell? ⟨w.heap.size, 0, none⟩ = some (.slice (some ⟨c, off, none⟩) P.length cap) ∧ wx.cell? ⟨w.heap.size + 1, 0, none⟩ = some (.int .i64 s) ∧ wx.cell? ⟨w.heap.size + 1 + 1, 0, none⟩ = some (.int .i64 a) ∧ wx.cell? ⟨w.heap.size + 1 + 1, 1, none⟩ = some (.int .i64 b) ∧ wx.cell? ⟨w.heap.size + 1 + 1 + 1, 0, none⟩ = some (.int .i64 lo) ∧ wx.cell? ⟨w.heap.size + 1 + 1 + 1, 1, none⟩ = some (.int .i64 hi))
  case first =>
    go_region_held3 (fun w' => w'.cell? ⟨w.heap.size, 0, none⟩ = some (.slice (some ⟨c, off, none⟩) P.length cap) ∧ w'.cell? ⟨w.heap.size + 1, 0, none⟩ = some (.int .i64 s) ∧ w'.cell? ⟨w.heap.size + 1 + 1, 0, none⟩ = some (.int .i64 a) ∧ w'.cell? ⟨w.heap.size + 1 + 1, 1, none⟩ = some (.int .i64 b) ∧ w'.cell? ⟨w.heap.size + 1 + 1 + 1, 0, none⟩ = some (.int .i64 lo) ∧ w'.cell? ⟨w.heap.size + 1 + 1 + 1, 1, none⟩ = some (.int .i64 hi)) (simp [go_sem, World.cell?_alloc_past, *])
      (first
        | (go_at_call 28; ((with_reducible refine (checkGases_any P (some ⟨c, off, none⟩) cap _ hl (by exact HS.out.below (by (repeat (first | (with_reducible refine Below.drew ?_) | (with_reducible refine below_drewN ?_ _) | (with_reducible refine Below.alloc ?_ (by first | omega | (simp; done) | (simp; omega) | (simp at *; omega)) _) | (with_reducible refine Below.setCell ?_ (by first | omega | (simp; done) | (simp; omega) | (simp at *; omega)) _) | (with_reducible exact Below.refl _ _) | (with_reducible assumption) | (with_reducible refine Below.trans ?_ (Below.mono (by assumption) (by first | omega | (simp; done) | (simp; omega) | (simp at *; omega))))))))).mono ?_)); rintro e w1 ⟨rfl, hbw1⟩; have zw1 := hbw1.size; (try simp at zw1); have f1_0 : w1.cell? ⟨w.heap.size, 0, none⟩ = some (.slice (some ⟨c, off, none⟩) P.length cap) := (by rw [(bcell hbw1).1 _ _ (by first | (simp; done) | (simp; omega) | omega)]; simp [go_sem, World.cell?_alloc_past, *]); have f1_1 : w1.cell? ⟨w.heap.size + 1, 0, none⟩ = some (.int .i64 s) := (by rw [(bcell hbw1).1 _ _ (by first | (simp; done) | (simp; omega) | omega)]; simp [go_sem, World.cell?_alloc_past, *]); have f1_2 : w1.cell? ⟨w.heap.size + 1 + 1, 0, none⟩ = some (.int .i64 a) := (by rw [(bcell hbw1).1 _ _ (by first | (simp; done) | (simp; omega) | omega)]; simp [go_sem, World.cell?_alloc_past, *]); have f1_3 : w1.cell? ⟨w.heap.size + 1 + 1, 1, none⟩ = some (.int .i64 b) := (by rw [(bcell hbw1).1 _ _ (by first | (simp; done) | (simp; omega) | omega)]; simp [go_sem, World.cell?_alloc_past, *]); have f1_4 : w1.cell? ⟨w.heap.size + 1 + 1 + 1, 0, none⟩ = some (.int .i64 lo) := (by rw [(bcell hbw1).1 _ _ (by first | (simp; done) | (simp; omega) | omega)]; simp [go_sem, World.cell?_alloc_past, *]); have f1_5 : w1.cell? ⟨w.heap.size + 1 + 1 + 1, 1, none⟩ = some (.int .i64 hi) := (by rw [(bcell hbw1).1 _ _ (by first | (simp; done) | (simp; omega) | omega)]; simp [go_sem, World.cell?_alloc_past, *]); have p1n0 : w1.heap.size ≠ w.heap.size := (by omega); have p1o0_0 : w.heap.size < w1.heap.size := (by omega); have p1o0_1 : w.heap.size < w1.heap.size + 1 := (by omega); have p1o0_2 : w.heap.size < w1.heap.size + 1 + 1 := (by omega); have p1o0_3 : w.heap.size < w1.heap.size + 1 + 1 + 1 := (by omega); have p1o0_4 : w.heap.size < w1.heap.size + 1 + 1 + 1 + 1 := (by omega); have p1o0_5 : w.heap.size < w1.heap.size + 1 + 1 + 1 + 1 + 1 := (by omega); have p1o0_6 : w.heap.size < w1.heap.size + 1 + 1 + 1 + 1 + 1 + 1 := (by omega); have p1n1 : w1.heap.size ≠ w.heap.size + 1 := (by omega); have p1o1_0 : w.heap.size + 1 < w1.heap.size := (by omega); have p1o1_1 : w.heap.size + 1 < w1.heap.size + 1 := (by omega); have p1o1_2 : w.heap.size + 1 < w1.heap.size + 1 + 1 := (by omega); have p1o1_3 : w.heap.size + 1 < w1.heap.size + 1 + 1 + 1 := (by omega); have p1o1_4 : w.heap.size + 1 < w1.heap.size + 1 + 1 + 1 + 1 := (by omega); have p1o1_5 : w.heap.size + 1 < w1.heap.size + 1 + 1 + 1 + 1 + 1 := (by omega); have p1o1_6 : w.heap.size + 1 < w1.heap.size + 1 + 1 + 1 + 1 + 1 + 1 := (by omega); have p1n2 : w1.heap.size ≠ w.heap.size + 1 + 1 := (by omega); have p1o2_0 : w.heap.size + 1 + 1 < w1.heap.size := (by omega); have p1o2_1 : w.heap.size + 1 + 1 < w1.heap.size + 1 := (by omega); have p1o2_2 : w.heap.size + 1 + 1 < w1.heap.size + 1 + 1 := (by omega); have p1o2_3 : w.heap.size + 1 + 1 < w1.heap.size + 1 + 1 + 1 := (by omega); have p1o2_4 : w.heap.size + 1 + 1 < w1.heap.size + 1 + 1 + 1 + 1 := (by omega); have p1o2_5 : w.heap.size + 1 + 1 < w1.heap.size + 1 + 1 + 1 + 1 + 1 := (by omega); have p1o2_6 : w.heap.size + 1 + 1 < w1.heap.size + 1 + 1 + 1 + 1 + 1 + 1 := (by omega); have p1n3 : w1.heap.size ≠ w.heap.size + 1 + 1 + 1 := (by omega); have p1o3_0 : w.heap.size + 1 + 1 + 1 < w1.heap.size := (by omega); have p1o3_1 : w.heap.size + 1 + 1 + 1 < w1.heap.size + 1 := (by omega); have p1o3_2 : w.heap.size + 1 + 1 + 1 < w1.heap.size + 1 + 1 := (by omega); have p1o3_3 : w.heap.size + 1 + 1 + 1 < w1.heap.size + 1 + 1 + 1 := (by omega); have p1o3_4 : w.heap.size + 1 + 1 + 1 < w1.heap.size + 1 + 1 + 1 + 1 := (by omega); have p1o3_5 : w.heap.size + 1 + 1 + 1 < w1.heap.size + 1 + 1 + 1 + 1 + 1 := (by omega); have p1o3_6 : w.heap.size + 1 + 1 + 1 < w1.heap.size + 1 + 1 + 1 + 1 + 1 + 1 := (by omega))
        | (go_at_call 29; ((with_reducible refine (checkDepths_v lo hi rd _ hrd).mono ?_)); rintro e w2 ⟨rfl, hbw2⟩; have zw2 := hbw2.size; (try simp at zw2); have f2_0 : w2.cell? ⟨w.heap.size, 0, none⟩ = some (.slice (some ⟨c, off, none⟩) P.length cap) := (by rw [(bcell hbw2).1 _ _ (by first | (simp; done) | (simp; omega) | omega)]; simp [go_sem, World.cell?_alloc_past, *]); have f2_1 : w2.cell? ⟨w.heap.size + 1, 0, none⟩ = some (.int .i64 s) := (by rw [(bcell hbw2).1 _ _ (by first | (simp; done) | (simp; omega) | omega)]; simp [go_sem, World.cell?_alloc_past, *]); have f2_2 : w2.cell? ⟨w.heap.size + 1 + 1, 0, none⟩ = some (.int .i64 a) := (by rw [(bcell hbw2).1 _ _ (by first | (simp; done) | (simp; omega) | omega)]; simp [go_sem, World.cell?_alloc_past, *]); have f2_3 : w2.cell? ⟨w.heap.size + 1 + 1, 1, none⟩ = some (.int .i64 b) := (by rw [(bcell hbw2).1 _ _ (by first | (simp; done) | (simp; omega) | omega)]; simp [go_sem, World.cell?_alloc_past, *]); have f2_4 : w2.cell? ⟨w.heap.size + 1 + 1 + 1, 0, none⟩ = some (.int .i64 lo) := (by rw [(bcell hbw2).1 _ _ (by first | (simp; done) | (simp; omega) | omega)]; simp [go_sem, World.cell?_alloc_past, *]); have f2_5 : w2.cell? ⟨w.heap.size + 1 + 1 + 1, 1, none⟩ = some (.int .i64 hi) := (by rw [(bcell hbw2).1 _ _ (by first | (simp; done) | (simp; omega) | omega)]; simp [go_sem, World.cell?_alloc_past, *]); have p2n0 : w2.heap.size ≠ w.heap.size := (by omega); have p2o0_0 : w.heap.size < w2.heap.size := (by omega); have p2o0_1 : w.heap.size < w2.heap.size + 1 := (by omega); have p2o0_2 : w.heap.size < w2.heap.size + 1 + 1 := (by omega); have p2o0_3 : w.heap.size < w2.heap.size + 1 + 1 + 1 := (by omega); have p2o0_4 : w.heap.size < w2.heap.size + 1 + 1 + 1 + 1 := (by omega); have p2o0_5 : w.heap.size < w2.heap.size + 1 + 1 + 1 + 1 + 1 := (by omega); have p2o0_6 : w.heap.size < w2.heap.size + 1 + 1 + 1 + 1 + 1 + 1 := (by omega); have p2n1 : w2.heap.size ≠ w.heap.size + 1 := (by omega); have p2o1_0 : w.heap.size + 1 < w2.heap.size := (by omega); have p2o1_1 : w.heap.size + 1 < w2.heap.size + 1 := (by omega); have p2o1_2 : w.heap.size + 1 < w2.heap.size + 1 + 1 := (by omega); have p2o1_3 : w.heap.size + 1 < w2.heap.size + 1 + 1 + 1 := (by omega); have p2o1_4 : w.heap.size + 1 < w2.heap.size + 1 + 1 + 1 + 1 := (by omega); have p2o1_5 : w.heap.size + 1 < w2.heap.size + 1 + 1 + 1 + 1 + 1 := (by omega); have p2o1_6 : w.heap.size + 1 < w2.heap.size + 1 + 1 + 1 + 1 + 1 + 1 := (by omega); have p2n2 : w2.heap.size ≠ w.heap.size + 1 + 1 := (by omega); have p2o2_0 : w.heap.size + 1 + 1 < w2.heap.size := (by omega); have p2o2_1 : w.heap.size + 1 + 1 < w2.heap.size + 1 := (by omega); have p2o2_2 : w.heap.size + 1 + 1 < w2.heap.size + 1 + 1 := (by omega); have p2o2_3 : w.heap.size + 1 + 1 < w2.heap.size + 1 + 1 + 1 := (by omega); have p2o2_4 : w.heap.size + 1 + 1 < w2.heap.size + 1 + 1 + 1 + 1 := (by omega); have p2o2_5 : w.heap.size + 1 + 1 < w2.heap.size + 1 + 1 + 1 + 1 + 1 := (by omega); have p2o2_6 : w.heap.size + 1 + 1 < w2.heap.size + 1 + 1 + 1 + 1 + 1 + 1 := (by omega); have p2n3 : w2.heap.size ≠ w.heap.size + 1 + 1 + 1 := (by omega); have p2o3_0 : w.heap.size + 1 + 1 + 1 < w2.heap.size := (by omega); have p2o3_1 : w.heap.size + 1 + 1 + 1 < w2.heap.size + 1 := (by omega); have p2o3_2 : w.heap.size + 1 + 1 + 1 < w2.heap.size + 1 + 1 := (by omega); have p2o3_3 : w.heap.size + 1 + 1 + 1 < w2.heap.size + 1 + 1 + 1 := (by omega); have p2o3_4 : w.heap.size + 1 + 1 + 1 < w2.heap.size + 1 + 1 + 1 + 1 := (by omega); have p2o3_5 : w.heap.size + 1 + 1 + 1 < w2.heap.size + 1 + 1 + 1 + 1 + 1 := (by omega); have p2o3_6 : w.heap.size + 1 + 1 + 1 < w2.heap.size + 1 + 1 + 1 + 1 + 1 + 1 := (by omega))
        | (go_at_call 23; ((with_reducible refine (checkSurface_any _ _).mono ?_)); rintro e w' ⟨rfl, rfl⟩)
        | (go_at_call 24; ((with_reducible refine (CheckLimits_any _ _ _).mono ?_)); rintro e w' ⟨rfl, rfl⟩)
        | (go_at_call 21; ((with_reducible refine (FO.out _ _ (by simp [go_sem]) (by simp [go_sem]) (by simp [go_sem]) (by simp [go_sem])).mono ?_)); rintro e w' ⟨rfl, rfl⟩))
    all_goals (go_wp2_with fail; go_meet; exact ⟨rfl, (by (repeat (first | (with_reducible refine Below.drew ?_) | (with_reducible refine below_drewN ?_ _) | (with_reducible refine Below.alloc ?_ (by first | omega | (simp; done) | (simp; omega) | (simp at *; omega)) _) | (with_reducible refine Below.setCell ?_ (by first | omega | (simp; done) | (simp; omega) | (simp at *; omega)) _) | (with_reducible exact Below.refl _ _) | (with_reducible assumption) | (with_reducible refine Below.trans ?_ (Below.mono (by assumption) (by first | omega | (simp; done) | (simp; omega) | (simp at *; omega))))))), (by first | (simp; done) | (simp; omega) | (simp at *; omega)), (by simp [go_sem, World.cell?_alloc_past, *]), (by simp [go_sem, World.cell?_alloc_past, *]), (by simp [go_sem, World.cell?_alloc_past, *]), (by simp [go_sem, World.cell?_alloc_past, *]), (by simp [go_sem, World.cell?_alloc_past, *]), (by simp [go_sem, World.cell?_alloc_past, *])⟩)
  case rest =>
    obtain ⟨rfl, hB, hz, q0, q1, q2, q3, q4, q5⟩ := hcut
    have kn0 : wc.heap.size ≠ w.heap.size := (by omega)
    have ko0_0 : w.heap.size < wc.heap.size := (by omega)
    have ko0_1 : w.heap.size < wc.heap.size + 1 := (by omega)
    have ko0_2 : w.heap.size < wc.heap.size + 1 + 1 := (by omega)
    have ko0_3 : w.heap.size < wc.heap.size + 1 + 1 + 1 := (by omega)
    have ko0_4 : w.heap.size < wc.heap.size + 1 + 1 + 1 + 1 := (by omega)
    have kn1 : wc.heap.size ≠ w.heap.size + 1 := (by omega)
    have ko1_0 : w.heap.size + 1 < wc.heap.size := (by omega)
    have ko1_1 : w.heap.size + 1 < wc.heap.size + 1 := (by omega)
    have ko1_2 : w.heap.size + 1 < wc.heap.size + 1 + 1 := (by omega)
    have ko1_3 : w.heap.size + 1 < wc.heap.size + 1 + 1 + 1 := (by omega)
    have ko1_4 : w.heap.size + 1 < wc.heap.size + 1 + 1 + 1 + 1 := (by omega)
    have kn2 : wc.heap.size ≠ w.heap.size + 1 + 1 := (by omega)
    have ko2_0 : w.heap.size + 1 + 1 < wc.heap.size := (by omega)
    have ko2_1 : w.heap.size + 1 + 1 < wc.heap.size + 1 := (by omega)
    have ko2_2 : w.heap.size + 1 + 1 < wc.heap.size + 1 + 1 := (by omega)
    have ko2_3 : w.heap.size + 1 + 1 < wc.heap.size + 1 + 1 + 1 := (by omega)
    have ko2_4 : w.heap.size + 1 + 1 < wc.heap.size + 1 + 1 + 1 + 1 := (by omega)
    have kn3 : wc.heap.size ≠ w.heap.size + 1 + 1 + 1 := (by omega)
    have ko3_0 : w.heap.size + 1 + 1 + 1 < wc.heap.size := (by omega)
    have ko3_1 : w.heap.size + 1 + 1 + 1 < wc.heap.size + 1 := (by omega)
    have ko3_2 : w.heap.size + 1 + 1 + 1 < wc.heap.size + 1 + 1 := (by omega)
    have ko3_3 : w.heap.size + 1 + 1 + 1 < wc.heap.size + 1 + 1 + 1 := (by omega)
    have ko3_4 : w.heap.size + 1 + 1 + 1 < wc.heap.size + 1 + 1 + 1 + 1 := (by omega)
    rcases ez er with ⟨h0, hb0⟩ | ⟨h0, hb0⟩
    · obtain ⟨z1, z2, z3, z4⟩ := firE4_z (show firE [gasesE P, rngE s 400 1100, limE a b, rdE lo hi] = 0 from her.out.trans h0.out)
      obtain ⟨d1, d2, d3, d4, d5⟩ := rdE_z z4
      clear z1 z2 z3 z4
      have hg0 : Hid (gapE P s a b lo hi = 0) := her.out.trans h0.out
      go_wp2
      go_loopw [12] (fun t wr => ∃ x : Int, t = .int .i64 x ∧ lo ≤ x ∧ x ≤ 30001 ∧ Hid (∀ y, lo ≤ y → y < x → brAny P s a b y) ∧ Below w.heap.size w wr ∧ w.heap.size + 4 ≤ wr.heap.size ∧ wr.cell? ⟨w.heap.size, 0, none⟩ = some (.slice (some ⟨c, off, none⟩) P.length cap) ∧ wr.cell? ⟨w.heap.size + 1, 0, none⟩ = some (.int .i64 s) ∧ wr.cell? ⟨w.heap.size + 1 + 1, 0, none⟩ = some (.int .i64 a) ∧ wr.cell? ⟨w.heap.size + 1 + 1, 1, none⟩ = some (.int .i64 b) ∧ wr.cell? ⟨w.heap.size + 1 + 1 + 1, 0, none⟩ = some (.int .i64 lo) ∧ wr.cell? ⟨w.heap.size + 1 + 1 + 1, 1, none⟩ = some (.int .i64 hi)) (fun t _ => (30002 - intOf t).toNat)
      case atStart => exact ⟨lo, rfl, by omega, by omega, fun y h1 h2 => by omega, (by (repeat (first | (with_reducible refine Below.drew ?_) | (with_reducible refine below_drewN ?_ _) | (with_reducible refine Below.alloc ?_ (by first | omega | (simp; done) | (simp; omega) | (simp at *; omega)) _) | (with_reducible refine Below.setCell ?_ (by first | omega | (simp; done) | (simp; omega) | (simp at *; omega)) _) | (with_reducible exact Below.refl _ _) | (with_reducible assumption) | (with_reducible refine Below.trans ?_ (Below.mono (by assumption) (by first | omega | (simp; done) | (simp; omega) | (simp at *; omega))))))), (by first | (simp; done) | (simp; omega) | omega), (by simp [go_sem, World.cell?_alloc_past, *]), (by simp [go_sem, World.cell?_alloc_past, *]), (by simp [go_sem, World.cell?_alloc_past, *]), (by simp [go_sem, World.cell?_alloc_past, *]), (by simp [go_sem, World.cell?_alloc_past, *]), (by simp [go_sem, World.cell?_alloc_past, *])⟩
      case round =>
        clear q0 q1 q2 q3 q4 q5 hB
        obtain ⟨x, rfl, x1, x2, hx, hB, hsz, q0, q1, q2, q3, q4, q5⟩ := hrel
        have hbs := hB.size
        have rn0 : wr.heap.size ≠ w.heap.size := (by omega)
        have ro0_0 : w.heap.size < wr.heap.size := (by omega)
        have ro0_1 : w.heap.size < wr.heap.size + 1 := (by omega)
        have ro0_2 : w.heap.size < wr.heap.size + 1 + 1 := (by omega)
        have rn1 : wr.heap.size ≠ w.heap.size + 1 := (by omega)
        have ro1_0 : w.heap.size + 1 < wr.heap.size := (by omega)
        have ro1_1 : w.heap.size + 1 < wr.heap.size + 1 := (by omega)
        have ro1_2 : w.heap.size + 1 < wr.heap.size + 1 + 1 := (by omega)
        have rn2 : wr.heap.size ≠ w.heap.size + 1 + 1 := (by omega)
        have ro2_0 : w.heap.size + 1 + 1 < wr.heap.size := (by omega)
        have ro2_1 : w.heap.size + 1 + 1 < wr.heap.size + 1 := (by omega)
        have ro2_2 : w.heap.size + 1 + 1 < wr.heap.size + 1 + 1 := (by omega)
        have rn3 : wr.heap.size ≠ w.heap.size + 1 + 1 + 1 := (by omega)
        have ro3_0 : w.heap.size + 1 + 1 + 1 < wr.heap.size := (by omega)
        have ro3_1 : w.heap.size + 1 + 1 + 1 < wr.heap.size + 1 := (by omega)
        have ro3_2 : w.heap.size + 1 + 1 + 1 < wr.heap.size + 1 + 1 := (by omega)
        by_cases hxh : x ≤ hi
        · go_wp2_with fail
          refine (breathed_any P c off cap _ _ _ s a b x _ hl (by first | omega | (simp; omega)) (by exact HP.out.below (by (repeat (first | (with_reducible refine Below.drew ?_) | (with_reducible refine below_drewN ?_ _) | (with_reducible refine Below.alloc ?_ (by first | omega | (simp; done) | (simp; omega) | (simp at *; omega)) _) | (with_reducible refine Below.setCell ?_ (by first | omega | (simp; done) | (simp; omega) | (simp at *; omega)) _) | (with_reducible exact Below.refl _ _) | (with_reducible assumption) | (with_reducible refine Below.trans ?_ (Below.mono (by assumption) (by first | omega | (simp; done) | (simp; omega) | (simp at *; omega))))))) hlt) q0 q1 q2 q3).mono ?_
          rintro e w1 ⟨h, hbw1⟩
          have z1 := hbw1.size
          (try simp at z1)
          have f0 : w1.cell? ⟨w.heap.size, 0, none⟩ = some (.slice (some ⟨c, off, none⟩) P.length cap) := (by rw [(bcell hbw1).1 _ _ (by first | (simp; done) | (simp; omega) | omega)]; simp [go_sem, World.cell?_alloc_past, *])
          have f1 : w1.cell? ⟨w.heap.size + 1, 0, none⟩ = some (.int .i64 s) := (by rw [(bcell hbw1).1 _ _ (by first | (simp; done) | (simp; omega) | omega)]; simp [go_sem, World.cell?_alloc_past, *])
          have f2 : w1.cell? ⟨w.heap.size + 1 + 1, 0, none⟩ = some (.int .i64 a) := (by rw [(bcell hbw1).1 _ _ (by first | (simp; done) | (simp; omega) | omega)]; simp [go_sem, World.cell?_alloc_past, *])
          have f3 : w1.cell? ⟨w.heap.size + 1 + 1, 1, none⟩ = some (.int .i64 b) := (by rw [(bcell hbw1).1 _ _ (by first | (simp; done) | (simp; omega) | omega)]; simp [go_sem, World.cell?_alloc_past, *])
          have f4 : w1.cell? ⟨w.heap.size + 1 + 1 + 1, 0, none⟩ = some (.int .i64 lo) := (by rw [(bcell hbw1).1 _ _ (by first | (simp; done) | (simp; omega) | omega)]; simp [go_sem, World.cell?_alloc_past, *])
          have f5 : w1.cell? ⟨w.heap.size + 1 + 1 + 1, 1, none⟩ = some (.int .i64 hi) := (by rw [(bcell hbw1).1 _ _ (by first | (simp; done) | (simp; omega) | omega)]; simp [go_sem, World.cell?_alloc_past, *])
          have hB1 : Below w.heap.size w w1 := (by (repeat (first | (with_reducible refine Below.drew ?_) | (with_reducible refine below_drewN ?_ _) | (with_reducible refine Below.alloc ?_ (by first | omega | (simp; done) | (simp; omega) | (simp at *; omega)) _) | (with_reducible refine Below.setCell ?_ (by first | omega | (simp; done) | (simp; omega) | (simp at *; omega)) _) | (with_reducible exact Below.refl _ _) | (with_reducible assumption) | (with_reducible refine Below.trans ?_ (Below.mono (by assumption) (by first | omega | (simp; done) | (simp; omega) | (simp at *; omega)))))))
          have pn0 : w1.heap.size ≠ w.heap.size := (by omega)
          have po0_0 : w.heap.size < w1.heap.size := (by omega)
          have po0_1 : w.heap.size < w1.heap.size + 1 := (by omega)
          have po0_2 : w.heap.size < w1.heap.size + 1 + 1 := (by omega)
          have pn1 : w1.heap.size ≠ w.heap.size + 1 := (by omega)
          have po1_0 : w.heap.size + 1 < w1.heap.size := (by omega)
          have po1_1 : w.heap.size + 1 < w1.heap.size + 1 := (by omega)
          have po1_2 : w.heap.size + 1 < w1.heap.size + 1 + 1 := (by omega)
          have pn2 : w1.heap.size ≠ w.heap.size + 1 + 1 := (by omega)
          have po2_0 : w.heap.size + 1 + 1 < w1.heap.size := (by omega)
          have po2_1 : w.heap.size + 1 + 1 < w1.heap.size + 1 := (by omega)
          have po2_2 : w.heap.size + 1 + 1 < w1.heap.size + 1 + 1 := (by omega)
          have pn3 : w1.heap.size ≠ w.heap.size + 1 + 1 + 1 := (by omega)
          have po3_0 : w.heap.size + 1 + 1 + 1 < w1.heap.size := (by omega)
          have po3_1 : w.heap.size + 1 + 1 + 1 < w1.heap.size + 1 := (by omega)
          have po3_2 : w.heap.size + 1 + 1 + 1 < w1.heap.size + 1 + 1 := (by omega)
          clear q0 q1 q2 q3 q4 q5 hbw1 hB
          rcases h with ⟨j, hj, hjb, rfl⟩ | ⟨hn, rfl⟩
          · have u1 := brB_bd hjb
            have u2 : depH P[j].o P[j].h s a b ≤ 30000 := depH_bd
            have hx2 : Hid (∀ y, lo ≤ y → y < depH P[j].o P[j].h s a b + 1 → brAny P s a b y) := fun y h1 h2 => by
              by_cases cc : y < x
              · exact hx.out y h1 cc
              · exact ⟨j, hj, brB_up hjb (by omega) (by omega)⟩
            generalize depH P[j].o P[j].h s a b = y at *
            clear hjb
            go_wp2
            go_roundw
            case rel => exact ⟨y + 1, rfl, by omega, by omega, hx2, (by (repeat (first | (with_reducible refine Below.drew ?_) | (with_reducible refine below_drewN ?_ _) | (with_reducible refine Below.alloc ?_ (by first | omega | (simp; done) | (simp; omega) | (simp at *; omega)) _) | (with_reducible refine Below.setCell ?_ (by first | omega | (simp; done) | (simp; omega) | (simp at *; omega)) _) | (with_reducible exact Below.refl _ _) | (with_reducible assumption) | (with_reducible refine Below.trans ?_ (Below.mono (by assumption) (by first | omega | (simp; done) | (simp; omega) | (simp at *; omega))))))), (by first | (simp; done) | (simp; omega) | omega), (by simp [go_sem, World.cell?_alloc_past, *]), (by simp [go_sem, World.cell?_alloc_past, *]), (by simp [go_sem, World.cell?_alloc_past, *]), (by simp [go_sem, World.cell?_alloc_past, *]), (by simp [go_sem, World.cell?_alloc_past, *]), (by simp [go_sem, World.cell?_alloc_past, *])⟩
            case measure => simp [intOf]; omega
          · have hG : Hid (IsGap P s a b lo hi x) := ⟨x1, hxh, hn, hx.out⟩
            clear hn
            go_wp2
            go_ret2
            exact ⟨Or.inr (Or.inl ⟨hg0.out, x, hG.out, rfl⟩), (by (repeat (first | (with_reducible refine Below.drew ?_) | (with_reducible refine below_drewN ?_ _) | (with_reducible refine Below.alloc ?_ (by first | omega | (simp; done) | (simp; omega) | (simp at *; omega)) _) | (with_reducible refine Below.setCell ?_ (by first | omega | (simp; done) | (simp; omega) | (simp at *; omega)) _) | (with_reducible exact Below.refl _ _) | (with_reducible assumption) | (with_reducible refine Below.trans ?_ (Below.mono (by assumption) (by first | omega | (simp; done) | (simp; omega) | (simp at *; omega)))))))⟩
        · have hG : Hid (NoGap P s a b lo hi) := fun y h1 h2 => hx.out y h1 (by omega)
          go_wp2
          go_ret2
          exact ⟨Or.inr (Or.inr ⟨hg0.out, hG.out, rfl⟩), (by (repeat (first | (with_reducible refine Below.drew ?_) | (with_reducible refine below_drewN ?_ _) | (with_reducible refine Below.alloc ?_ (by first | omega | (simp; done) | (simp; omega) | (simp at *; omega)) _) | (with_reducible refine Below.setCell ?_ (by first | omega | (simp; done) | (simp; omega) | (simp at *; omega)) _) | (with_reducible exact Below.refl _ _) | (with_reducible assumption) | (with_reducible refine Below.trans ?_ (Below.mono (by assumption) (by first | omega | (simp; done) | (simp; omega) | (simp at *; omega)))))))⟩
    · have hg0 : Hid (gapE P s a b lo hi = er) := her
      go_wp2
      go_ret2
      exact ⟨Or.inl ⟨by rw [hg0.out]; exact h0.out, by rw [hg0.out]; rfl⟩, (by (repeat (first | (with_reducible refine Below.drew ?_) | (with_reducible refine below_drewN ?_ _) | (with_reducible refine Below.alloc ?_ (by first | omega | (simp; done) | (simp; omega) | (simp at *; omega)) _) | (with_reducible refine Below.setCell ?_ (by first | omega | (simp; done) | (simp; omega) | (simp at *; omega)) _) | (with_reducible exact Below.refl _ _) | (with_reducible assumption) | (with_reducible refine Below.trans ?_ (Below.mono (by assumption) (by first | omega | (simp; done) | (simp; omega) | (simp at *; omega)))))))⟩
theorem checkGases_n (A : Option Addr) (cap : Nat) (w : World) :
    Calls Try.prog 28 #[.slice A 0 cap] w fun e w' => e = .returned (.int .i64 (gasesE [])) ∧ Below w.heap.size w w' := checkGases_any [] A cap w (by simp) (Or.inl rfl)
set_option maxRecDepth 100000 in
set_option maxHeartbeats 8000000 in
theorem FirstGap_nil (A : Option Addr) (cap : Nat) (s a b lo hi : Int) (w : World) :
    Calls Try.prog 11 #[.slice A 0 cap, .int .i64 s, .agg #[.int .i64 a, .int .i64 b], .agg #[.int .i64 lo, .int .i64 hi]] w (GapPost [] s a b lo hi w) := by
  obtain ⟨rd, hrd⟩ : ∃ rd, Hid (rdE lo hi = rd) := ⟨_, rfl⟩
  obtain ⟨er, her⟩ : ∃ er, Hid (gapE [] s a b lo hi = er) := ⟨_, rfl⟩
  have fo : ∀ er', er' = er → ∀ (bk : Nat) (w : World), w.cell? ⟨bk, 0, none⟩ = some (.int .i64 (gasesE [])) → w.cell? ⟨bk, 1, none⟩ = some (.int .i64 (rngE s 400 1100)) → w.cell? ⟨bk, 2, none⟩ = some (.int .i64 (limE a b)) → w.cell? ⟨bk, 3, none⟩ = some (.int .i64 rd) →
      Calls Try.prog 21 #[.slice (some ⟨bk, 0, none⟩) 4 4] w fun e w' => e = .returned (.int .i64 er) ∧ w = w' := by
    intro er' _ bk w h0 h1 h2 h3
    have := firstOf4c (gasesE []) (rngE s 400 1100) (limE a b) rd bk w h0 h1 h2 h3
    rw [← hrd.out] at this
    rw [show firE [gasesE [], rngE s 400 1100, limE a b, rdE lo hi] = er from her.out] at this
    exact this
  have FO := Lib.hid (fun bk w => fo er rfl bk w)
  clear fo
  go_enter Try.func11, Try.ntmps11
  go_upto_region 1 with (fail)
  go_cut [10] from 15 (fun s10 wx => s10 = .int .i64 er ∧ Below w.heap.size w wx ∧ w.heap.size + 4 ≤ wx.heap.size ∧ wx.cell? ⟨w.heap.size, 0, none⟩ = some (.slice A 0 cap) ∧ wx.cell? ⟨w.heap.size + 1, 0, none⟩ = some (.int .i64 s) ∧ wx.cell? ⟨w.heap.size + 1 + 1, 0, none⟩ = some (.int .i64 a) ∧ wx.cell? ⟨w.heap.size + 1 + 1, 1, none⟩ = some (.int .i64 b) ∧ wx.cell? ⟨w.heap.size + 1 + 1 + 1, 0, none⟩ = some (.int .i64 lo) ∧ wx.cell? ⟨w.heap.size + 1 + 1 + 1, 1, none⟩ = some (.int .i64 hi))
  case first =>
    go_region_held3 (fun w' => w'.cell? ⟨w.heap.size, 0, none⟩ = some (.slice A 0 cap) ∧ w'.cell? ⟨w.heap.size + 1, 0, none⟩ = some (.int .i64 s) ∧ w'.cell? ⟨w.heap.size + 1 + 1, 0, none⟩ = some (.int .i64 a) ∧ w'.cell? ⟨w.heap.size + 1 + 1, 1, none⟩ = some (.int .i64 b) ∧ w'.cell? ⟨w.heap.size + 1 + 1 + 1, 0, none⟩ = some (.int .i64 lo) ∧ w'.cell? ⟨w.heap.size + 1 + 1 + 1, 1, none⟩ = some (.int .i64 hi)) (simp [go_sem, World.cell?_alloc_past, *])
      (first
        | (go_at_call 28; ((with_reducible refine (checkGases_n A cap _).mono ?_)); rintro e w1 ⟨rfl, hbw1⟩; have zw1 := hbw1.size; (try simp at zw1); have f1_0 : w1.cell? ⟨w.heap.size, 0, none⟩ = some (.slice A 0 cap) := (by rw [(bcell hbw1).1 _ _ (by first | (simp; done) | (simp; omega) | omega)]; simp [go_sem, World.cell?_alloc_past, *]); have f1_1 : w1.cell? ⟨w.heap.size + 1, 0, none⟩ = some (.int .i64 s) := (by rw [(bcell hbw1).1 _ _ (by first | (simp; done) | (simp; omega) | omega)]; simp [go_sem, World.cell?_alloc_past, *]); have f1_2 : w1.cell? ⟨w.heap.size + 1 + 1, 0, none⟩ = some (.int .i64 a) := (by rw [(bcell hbw1).1 _ _ (by first | (simp; done) | (simp; omega) | omega)]; simp [go_sem, World.cell?_alloc_past, *]); have f1_3 : w1.cell? ⟨w.heap.size + 1 + 1, 1, none⟩ = some (.int .i64 b) := (by rw [(bcell hbw1).1 _ _ (by first | (simp; done) | (simp; omega) | omega)]; simp [go_sem, World.cell?_alloc_past, *]); have f1_4 : w1.cell? ⟨w.heap.size + 1 + 1 + 1, 0, none⟩ = some (.int .i64 lo) := (by rw [(bcell hbw1).1 _ _ (by first | (simp; done) | (simp; omega) | omega)]; simp [go_sem, World.cell?_alloc_past, *]); have f1_5 : w1.cell? ⟨w.heap.size + 1 + 1 + 1, 1, none⟩ = some (.int .i64 hi) := (by rw [(bcell hbw1).1 _ _ (by first | (simp; done) | (simp; omega) | omega)]; simp [go_sem, World.cell?_alloc_past, *]); have p1n0 : w1.heap.size ≠ w.heap.size := (by omega); have p1o0_0 : w.heap.size < w1.heap.size := (by omega); have p1o0_1 : w.heap.size < w1.heap.size + 1 := (by omega); have p1o0_2 : w.heap.size < w1.heap.size + 1 + 1 := (by omega); have p1o0_3 : w.heap.size < w1.heap.size + 1 + 1 + 1 := (by omega); have p1o0_4 : w.heap.size < w1.heap.size + 1 + 1 + 1 + 1 := (by omega); have p1o0_5 : w.heap.size < w1.heap.size + 1 + 1 + 1 + 1 + 1 := (by omega); have p1o0_6 : w.heap.size < w1.heap.size + 1 + 1 + 1 + 1 + 1 + 1 := (by omega); have p1n1 : w1.heap.size ≠ w.heap.size + 1 := (by omega); have p1o1_0 : w.heap.size + 1 < w1.heap.size := (by omega); have p1o1_1 : w.heap.size + 1 < w1.heap.size + 1 := (by omega); have p1o1_2 : w.heap.size + 1 < w1.heap.size + 1 + 1 := (by omega); have p1o1_3 : w.heap.size + 1 < w1.heap.size + 1 + 1 + 1 := (by omega); have p1o1_4 : w.heap.size + 1 < w1.heap.size + 1 + 1 + 1 + 1 := (by omega); have p1o1_5 : w.heap.size + 1 < w1.heap.size + 1 + 1 + 1 + 1 + 1 := (by omega); have p1o1_6 : w.heap.size + 1 < w1.heap.size + 1 + 1 + 1 + 1 + 1 + 1 := (by omega); have p1n2 : w1.heap.size ≠ w.heap.size + 1 + 1 := (by omega); have p1o2_0 : w.heap.size + 1 + 1 < w1.heap.size := (by omega); have p1o2_1 : w.heap.size + 1 + 1 < w1.heap.size + 1 := (by omega); have p1o2_2 : w.heap.size + 1 + 1 < w1.heap.size + 1 + 1 := (by omega); have p1o2_3 : w.heap.size + 1 + 1 < w1.heap.size + 1 + 1 + 1 := (by omega); have p1o2_4 : w.heap.size + 1 + 1 < w1.heap.size + 1 + 1 + 1 + 1 := (by omega); have p1o2_5 : w.heap.size + 1 + 1 < w1.heap.size + 1 + 1 + 1 + 1 + 1 := (by omega); have p1o2_6 : w.heap.size + 1 + 1 < w1.heap.size + 1 + 1 + 1 + 1 + 1 + 1 := (by omega); have p1n3 : w1.heap.size ≠ w.heap.size + 1 + 1 + 1 := (by omega); have p1o3_0 : w.heap.size + 1 + 1 + 1 < w1.heap.size := (by omega); have p1o3_1 : w.heap.size + 1 + 1 + 1 < w1.heap.size + 1 := (by omega); have p1o3_2 : w.heap.size + 1 + 1 + 1 < w1.heap.size + 1 + 1 := (by omega); have p1o3_3 : w.heap.size + 1 + 1 + 1 < w1.heap.size + 1 + 1 + 1 := (by omega); have p1o3_4 : w.heap.size + 1 + 1 + 1 < w1.heap.size + 1 + 1 + 1 + 1 := (by omega); have p1o3_5 : w.heap.size + 1 + 1 + 1 < w1.heap.size + 1 + 1 + 1 + 1 + 1 := (by omega); have p1o3_6 : w.heap.size + 1 + 1 + 1 < w1.heap.size + 1 + 1 + 1 + 1 + 1 + 1 := (by omega))
        | (go_at_call 29; ((with_reducible refine (checkDepths_v lo hi rd _ hrd).mono ?_)); rintro e w2 ⟨rfl, hbw2⟩; have zw2 := hbw2.size; (try simp at zw2); have f2_0 : w2.cell? ⟨w.heap.size, 0, none⟩ = some (.slice A 0 cap) := (by rw [(bcell hbw2).1 _ _ (by first | (simp; done) | (simp; omega) | omega)]; simp [go_sem, World.cell?_alloc_past, *]); have f2_1 : w2.cell? ⟨w.heap.size + 1, 0, none⟩ = some (.int .i64 s) := (by rw [(bcell hbw2).1 _ _ (by first | (simp; done) | (simp; omega) | omega)]; simp [go_sem, World.cell?_alloc_past, *]); have f2_2 : w2.cell? ⟨w.heap.size + 1 + 1, 0, none⟩ = some (.int .i64 a) := (by rw [(bcell hbw2).1 _ _ (by first | (simp; done) | (simp; omega) | omega)]; simp [go_sem, World.cell?_alloc_past, *]); have f2_3 : w2.cell? ⟨w.heap.size + 1 + 1, 1, none⟩ = some (.int .i64 b) := (by rw [(bcell hbw2).1 _ _ (by first | (simp; done) | (simp; omega) | omega)]; simp [go_sem, World.cell?_alloc_past, *]); have f2_4 : w2.cell? ⟨w.heap.size + 1 + 1 + 1, 0, none⟩ = some (.int .i64 lo) := (by rw [(bcell hbw2).1 _ _ (by first | (simp; done) | (simp; omega) | omega)]; simp [go_sem, World.cell?_alloc_past, *]); have f2_5 : w2.cell? ⟨w.heap.size + 1 + 1 + 1, 1, none⟩ = some (.int .i64 hi) := (by rw [(bcell hbw2).1 _ _ (by first | (simp; done) | (simp; omega) | omega)]; simp [go_sem, World.cell?_alloc_past, *]); have p2n0 : w2.heap.size ≠ w.heap.size := (by omega); have p2o0_0 : w.heap.size < w2.heap.size := (by omega); have p2o0_1 : w.heap.size < w2.heap.size + 1 := (by omega); have p2o0_2 : w.heap.size < w2.heap.size + 1 + 1 := (by omega); have p2o0_3 : w.heap.size < w2.heap.size + 1 + 1 + 1 := (by omega); have p2o0_4 : w.heap.size < w2.heap.size + 1 + 1 + 1 + 1 := (by omega); have p2o0_5 : w.heap.size < w2.heap.size + 1 + 1 + 1 + 1 + 1 := (by omega); have p2o0_6 : w.heap.size < w2.heap.size + 1 + 1 + 1 + 1 + 1 + 1 := (by omega); have p2n1 : w2.heap.size ≠ w.heap.size + 1 := (by omega); have p2o1_0 : w.heap.size + 1 < w2.heap.size := (by omega); have p2o1_1 : w.heap.size + 1 < w2.heap.size + 1 := (by omega); have p2o1_2 : w.heap.size + 1 < w2.heap.size + 1 + 1 := (by omega); have p2o1_3 : w.heap.size + 1 < w2.heap.size + 1 + 1 + 1 := (by omega); have p2o1_4 : w.heap.size + 1 < w2.heap.size + 1 + 1 + 1 + 1 := (by omega); have p2o1_5 : w.heap.size + 1 < w2.heap.size + 1 + 1 + 1 + 1 + 1 := (by omega); have p2o1_6 : w.heap.size + 1 < w2.heap.size + 1 + 1 + 1 + 1 + 1 + 1 := (by omega); have p2n2 : w2.heap.size ≠ w.heap.size + 1 + 1 := (by omega); have p2o2_0 : w.heap.size + 1 + 1 < w2.heap.size := (by omega); have p2o2_1 : w.heap.size + 1 + 1 < w2.heap.size + 1 := (by omega); have p2o2_2 : w.heap.size + 1 + 1 < w2.heap.size + 1 + 1 := (by omega); have p2o2_3 : w.heap.size + 1 + 1 < w2.heap.size + 1 + 1 + 1 := (by omega); have p2o2_4 : w.heap.size + 1 + 1 < w2.heap.size + 1 + 1 + 1 + 1 := (by omega); have p2o2_5 : w.heap.size + 1 + 1 < w2.heap.size + 1 + 1 + 1 + 1 + 1 := (by omega); have p2o2_6 : w.heap.size + 1 + 1 < w2.heap.size + 1 + 1 + 1 + 1 + 1 + 1 := (by omega); have p2n3 : w2.heap.size ≠ w.heap.size + 1 + 1 + 1 := (by omega); have p2o3_0 : w.heap.size + 1 + 1 + 1 < w2.heap.size := (by omega); have p2o3_1 : w.heap.size + 1 + 1 + 1 < w2.heap.size + 1 := (by omega); have p2o3_2 : w.heap.size + 1 + 1 + 1 < w2.heap.size + 1 + 1 := (by omega); have p2o3_3 : w.heap.size + 1 + 1 + 1 < w2.heap.size + 1 + 1 + 1 := (by omega); have p2o3_4 : w.heap.size + 1 + 1 + 1 < w2.heap.size + 1 + 1 + 1 + 1 := (by omega); have p2o3_5 : w.heap.size + 1 + 1 + 1 < w2.heap.size + 1 + 1 + 1 + 1 + 1 := (by omega); have p2o3_6 : w.heap.size + 1 + 1 + 1 < w2.heap.size + 1 + 1 + 1 + 1 + 1 + 1 := (by omega))
        | (go_at_call 23; ((with_reducible refine (checkSurface_any _ _).mono ?_)); rintro e w' ⟨rfl, rfl⟩)
        | (go_at_call 24; ((with_reducible refine (CheckLimits_any _ _ _).mono ?_)); rintro e w' ⟨rfl, rfl⟩)
        | (go_at_call 21; ((with_reducible refine (FO.out _ _ (by simp [go_sem]) (by simp [go_sem]) (by simp [go_sem]) (by simp [go_sem])).mono ?_)); rintro e w' ⟨rfl, rfl⟩))
    all_goals (go_wp2_with fail; go_meet; exact ⟨rfl, (by (repeat (first | (with_reducible refine Below.drew ?_) | (with_reducible refine below_drewN ?_ _) | (with_reducible refine Below.alloc ?_ (by first | omega | (simp; done) | (simp; omega) | (simp at *; omega)) _) | (with_reducible refine Below.setCell ?_ (by first | omega | (simp; done) | (simp; omega) | (simp at *; omega)) _) | (with_reducible exact Below.refl _ _) | (with_reducible assumption) | (with_reducible refine Below.trans ?_ (Below.mono (by assumption) (by first | omega | (simp; done) | (simp; omega) | (simp at *; omega))))))), (by first | (simp; done) | (simp; omega) | (simp at *; omega)), (by simp [go_sem, World.cell?_alloc_past, *]), (by simp [go_sem, World.cell?_alloc_past, *]), (by simp [go_sem, World.cell?_alloc_past, *]), (by simp [go_sem, World.cell?_alloc_past, *]), (by simp [go_sem, World.cell?_alloc_past, *]), (by simp [go_sem, World.cell?_alloc_past, *])⟩)
  case rest =>
    obtain ⟨rfl, hB, hz, q0, q1, q2, q3, q4, q5⟩ := hcut
    have kn0 : wc.heap.size ≠ w.heap.size := (by omega)
    have ko0_0 : w.heap.size < wc.heap.size := (by omega)
    have ko0_1 : w.heap.size < wc.heap.size + 1 := (by omega)
    have ko0_2 : w.heap.size < wc.heap.size + 1 + 1 := (by omega)
    have ko0_3 : w.heap.size < wc.heap.size + 1 + 1 + 1 := (by omega)
    have ko0_4 : w.heap.size < wc.heap.size + 1 + 1 + 1 + 1 := (by omega)
    have kn1 : wc.heap.size ≠ w.heap.size + 1 := (by omega)
    have ko1_0 : w.heap.size + 1 < wc.heap.size := (by omega)
    have ko1_1 : w.heap.size + 1 < wc.heap.size + 1 := (by omega)
    have ko1_2 : w.heap.size + 1 < wc.heap.size + 1 + 1 := (by omega)
    have ko1_3 : w.heap.size + 1 < wc.heap.size + 1 + 1 + 1 := (by omega)
    have ko1_4 : w.heap.size + 1 < wc.heap.size + 1 + 1 + 1 + 1 := (by omega)
    have kn2 : wc.heap.size ≠ w.heap.size + 1 + 1 := (by omega)
    have ko2_0 : w.heap.size + 1 + 1 < wc.heap.size := (by omega)
    have ko2_1 : w.heap.size + 1 + 1 < wc.heap.size + 1 := (by omega)
    have ko2_2 : w.heap.size + 1 + 1 < wc.heap.size + 1 + 1 := (by omega)
    have ko2_3 : w.heap.size + 1 + 1 < wc.heap.size + 1 + 1 + 1 := (by omega)
    have ko2_4 : w.heap.size + 1 + 1 < wc.heap.size + 1 + 1 + 1 + 1 := (by omega)
    have kn3 : wc.heap.size ≠ w.heap.size + 1 + 1 + 1 := (by omega)
    have ko3_0 : w.heap.size + 1 + 1 + 1 < wc.heap.size := (by omega)
    have ko3_1 : w.heap.size + 1 + 1 + 1 < wc.heap.size + 1 := (by omega)
    have ko3_2 : w.heap.size + 1 + 1 + 1 < wc.heap.size + 1 + 1 := (by omega)
    have ko3_3 : w.heap.size + 1 + 1 + 1 < wc.heap.size + 1 + 1 + 1 := (by omega)
    have ko3_4 : w.heap.size + 1 + 1 + 1 < wc.heap.size + 1 + 1 + 1 + 1 := (by omega)
    rcases ez er with ⟨h0, hb0⟩ | ⟨h0, hb0⟩
    · obtain ⟨z1, z2, z3, z4⟩ := firE4_z (show firE [gasesE [], rngE s 400 1100, limE a b, rdE lo hi] = 0 from her.out.trans h0.out)
      obtain ⟨d1, d2, d3, d4, d5⟩ := rdE_z z4
      clear z1 z2 z3 z4
      have hg0 : Hid (gapE [] s a b lo hi = 0) := her.out.trans h0.out
      go_wp2
      go_loopw [12] (fun t wr => t = .int .i64 lo ∧ Below w.heap.size w wr ∧ w.heap.size + 4 ≤ wr.heap.size ∧ wr.cell? ⟨w.heap.size, 0, none⟩ = some (.slice A 0 cap) ∧ wr.cell? ⟨w.heap.size + 1, 0, none⟩ = some (.int .i64 s) ∧ wr.cell? ⟨w.heap.size + 1 + 1, 0, none⟩ = some (.int .i64 a) ∧ wr.cell? ⟨w.heap.size + 1 + 1, 1, none⟩ = some (.int .i64 b) ∧ wr.cell? ⟨w.heap.size + 1 + 1 + 1, 0, none⟩ = some (.int .i64 lo) ∧ wr.cell? ⟨w.heap.size + 1 + 1 + 1, 1, none⟩ = some (.int .i64 hi)) (fun t _ => 1)
      case atStart => exact ⟨rfl, (by (repeat (first | (with_reducible refine Below.drew ?_) | (with_reducible refine below_drewN ?_ _) | (with_reducible refine Below.alloc ?_ (by first | omega | (simp; done) | (simp; omega) | (simp at *; omega)) _) | (with_reducible refine Below.setCell ?_ (by first | omega | (simp; done) | (simp; omega) | (simp at *; omega)) _) | (with_reducible exact Below.refl _ _) | (with_reducible assumption) | (with_reducible refine Below.trans ?_ (Below.mono (by assumption) (by first | omega | (simp; done) | (simp; omega) | (simp at *; omega))))))), (by first | (simp; done) | (simp; omega) | omega), (by simp [go_sem, World.cell?_alloc_past, *]), (by simp [go_sem, World.cell?_alloc_past, *]), (by simp [go_sem, World.cell?_alloc_past, *]), (by simp [go_sem, World.cell?_alloc_past, *]), (by simp [go_sem, World.cell?_alloc_past, *]), (by simp [go_sem, World.cell?_alloc_past, *])⟩
      case round =>
        clear q0 q1 q2 q3 q4 q5 hB
        obtain ⟨rfl, hB, hsz, q0, q1, q2, q3, q4, q5⟩ := hrel
        have hbs := hB.size
        have rn0 : wr.heap.size ≠ w.heap.size := (by omega)
        have ro0_0 : w.heap.size < wr.heap.size := (by omega)
        have ro0_1 : w.heap.size < wr.heap.size + 1 := (by omega)
        have ro0_2 : w.heap.size < wr.heap.size + 1 + 1 := (by omega)
        have rn1 : wr.heap.size ≠ w.heap.size + 1 := (by omega)
        have ro1_0 : w.heap.size + 1 < wr.heap.size := (by omega)
        have ro1_1 : w.heap.size + 1 < wr.heap.size + 1 := (by omega)
        have ro1_2 : w.heap.size + 1 < wr.heap.size + 1 + 1 := (by omega)
        have rn2 : wr.heap.size ≠ w.heap.size + 1 + 1 := (by omega)
        have ro2_0 : w.heap.size + 1 + 1 < wr.heap.size := (by omega)
        have ro2_1 : w.heap.size + 1 + 1 < wr.heap.size + 1 := (by omega)
        have ro2_2 : w.heap.size + 1 + 1 < wr.heap.size + 1 + 1 := (by omega)
        have rn3 : wr.heap.size ≠ w.heap.size + 1 + 1 + 1 := (by omega)
        have ro3_0 : w.heap.size + 1 + 1 + 1 < wr.heap.size := (by omega)
        have ro3_1 : w.heap.size + 1 + 1 + 1 < wr.heap.size + 1 := (by omega)
        have ro3_2 : w.heap.size + 1 + 1 + 1 < wr.heap.size + 1 + 1 := (by omega)
        go_wp2_with fail
        refine (breathed_nil A cap _ _ _ s a b lo _ q0).mono ?_
        rintro e w1 ⟨h, hbw1⟩
        have z1 := hbw1.size
        (try simp at z1)
        have hB1 : Below w.heap.size w w1 := (by (repeat (first | (with_reducible refine Below.drew ?_) | (with_reducible refine below_drewN ?_ _) | (with_reducible refine Below.alloc ?_ (by first | omega | (simp; done) | (simp; omega) | (simp at *; omega)) _) | (with_reducible refine Below.setCell ?_ (by first | omega | (simp; done) | (simp; omega) | (simp at *; omega)) _) | (with_reducible exact Below.refl _ _) | (with_reducible assumption) | (with_reducible refine Below.trans ?_ (Below.mono (by assumption) (by first | omega | (simp; done) | (simp; omega) | (simp at *; omega)))))))
        rcases h with ⟨j, hj, hjb, rfl⟩ | ⟨hn, rfl⟩
        · simp at hj
        · have hG : Hid (IsGap [] s a b lo hi lo) := ⟨Int.le_refl _, d5, hn, fun y h1 h2 => by omega⟩
          clear hn
          go_wp2
          go_ret2
          exact ⟨Or.inr (Or.inl ⟨hg0.out, lo, hG.out, rfl⟩), (by (repeat (first | (with_reducible refine Below.drew ?_) | (with_reducible refine below_drewN ?_ _) | (with_reducible refine Below.alloc ?_ (by first | omega | (simp; done) | (simp; omega) | (simp at *; omega)) _) | (with_reducible refine Below.setCell ?_ (by first | omega | (simp; done) | (simp; omega) | (simp at *; omega)) _) | (with_reducible exact Below.refl _ _) | (with_reducible assumption) | (with_reducible refine Below.trans ?_ (Below.mono (by assumption) (by first | omega | (simp; done) | (simp; omega) | (simp at *; omega)))))))⟩
    · have hg0 : Hid (gapE [] s a b lo hi = er) := her
      go_wp2
      go_ret2
      exact ⟨Or.inl ⟨by rw [hg0.out]; exact h0.out, by rw [hg0.out]; rfl⟩, (by (repeat (first | (with_reducible refine Below.drew ?_) | (with_reducible refine below_drewN ?_ _) | (with_reducible refine Below.alloc ?_ (by first | omega | (simp; done) | (simp; omega) | (simp at *; omega)) _) | (with_reducible refine Below.setCell ?_ (by first | omega | (simp; done) | (simp; omega) | (simp at *; omega)) _) | (with_reducible exact Below.refl _ _) | (with_reducible assumption) | (with_reducible refine Below.trans ?_ (Below.mono (by assumption) (by first | omega | (simp; done) | (simp; omega) | (simp at *; omega)))))))⟩
theorem FirstGap_any (P : List Gs) (A : Option Addr) (cap : Nat) (s a b lo hi : Int) (w : World) (hl : P.length ≤ 1000000) (hS : SlAt w A P) :
    Calls Try.prog 11 #[.slice A P.length cap, .int .i64 s, .agg #[.int .i64 a, .int .i64 b], .agg #[.int .i64 lo, .int .i64 hi]] w (GapPost P s a b lo hi w) := by
  rcases hS with rfl | ⟨c, off, rfl, hlt, hP⟩
  · exact FirstGap_nil A cap s a b lo hi w
  · exact FirstGap_ne P c off cap s a b lo hi w hl hlt hP
end Go.Proofs.Ytebieflnlmdllab
